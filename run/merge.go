package run

import "synod/node"

// Merge lays several lists of acts into one.
func Merge(lists [][]node.Act) []node.Act {
	var merged []node.Act
	for len(lists) > 0 {
		// Only lists that go on are looked at again: a long one costs no more for the short ones beside it.
		var rest [][]node.Act
		for _, l := range lists {
			if len(l) > 0 {
				merged = append(merged, copied(l[0]))
				rest = append(rest, l[1:])
			}
		}
		lists = rest
	}
	return merged
}

// copied is an act whose data is memory of its own.
func copied(a node.Act) node.Act {
	a.Data = append([]byte(nil), a.Data...)
	return a
}
