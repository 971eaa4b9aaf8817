package shell

import (
	"iter"
	"strings"
)

const (
	blanks = " " // all that may stand ahead of a line's first word
	remark = "#" // what a remark begins with
)

// Lines are the lines that say something.
func Lines(script string) iter.Seq2[int, string] {
	return func(yield func(int, string) bool) {
		rest := script
		for number := 1; rest != ""; number++ {
			line, behind, _ := strings.Cut(rest, newline)
			if says(line) && !yield(number, line) {
				return
			}
			rest = behind
		}
	}
}

// says tells whether a line says something. Its words aren't asked for: a remark may be of any form and length.
func says(line string) bool {
	line = strings.TrimLeft(line, blanks)
	return line != "" && !strings.HasPrefix(line, remark)
}

// firstLine is the number of the first line that says something; 0, if none does.
func firstLine(script string) int {
	for number := range Lines(script) {
		return number
	}
	return 0
}
