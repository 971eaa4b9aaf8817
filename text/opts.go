package text

import (
	"strconv"

	"synod/api"
	"synod/world"
)

const (
	optsWord = "world" // the first word of the options' line
	optsEnd  = "0"     // the last one
)

// numbersOf are the numbers of options, in the order of their line.
func numbersOf(o *world.Opts) []*int {
	n := &o.Node
	c := &n.Core
	return []*int{
		&o.Nodes, &o.Clients,
		&c.Election, &c.Beat, &c.Batch, &c.Window, &c.Reads, &c.Pending,
		&n.Every, &n.Keep, &n.Segment,
		&n.Inbox, &n.Ticks, &n.Calls, &n.Jobs, &n.Applies, &n.Out,
	}
}

// ParseOpts are the options of a line.
func ParseOpts(line string) (world.Opts, api.Errno) {
	first, words, err := cutFirst(line)
	if err != api.OK {
		return world.Opts{}, err
	}
	var o world.Opts
	numbers := numbersOf(&o)
	end := len(numbers)
	switch {
	case first != optsWord:
		return world.Opts{}, api.ErrWord
	case len(words) != end+1:
		return world.Opts{}, api.ErrWords
	case words[end] != optsEnd:
		return world.Opts{}, api.ErrNumber
	}
	for i, field := range numbers {
		n, ok := number(words[i])
		if !ok {
			return world.Opts{}, api.ErrNumber
		}
		*field = n
	}
	return o, api.OK
}

// FormatOpts is the line of options.
func FormatOpts(o world.Opts) string {
	words := []string{optsWord}
	for _, field := range numbersOf(&o) {
		words = append(words, strconv.Itoa(*field))
	}
	return join(append(words, optsEnd)...)
}
