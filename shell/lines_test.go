package shell_test

import (
	"fmt"
	"iter"
	"slices"
	"strings"
	"testing"

	"synod/api"
	"synod/shell"
)

// row is a line with its number.
type row struct {
	number int
	line   string
}

// rows are what is gone over.
func rows(l iter.Seq2[int, string]) []row {
	var all []row
	for number, line := range l {
		all = append(all, row{number, line})
	}
	return all
}

// modelRows goes through a text byte by byte.
func modelRows(s string) []row {
	var all []row
	number, line := 1, []byte{}
	end := func() {
		for _, c := range line {
			if c == ' ' {
				continue
			}
			if c != '#' {
				all = append(all, row{number, string(line)})
			}
			break
		}
		number, line = number+1, nil
	}
	for i := range len(s) {
		if s[i] == '\n' {
			end()
		} else {
			line = append(line, s[i])
		}
	}
	end()
	return all
}

func TestP18_1_Lines(t *testing.T) {
	is(t, rows(shell.Lines("a\n\n #b\n c \n#\nd")), "[{1 a} {4  c } {6 d}]")
	is(t, rows(shell.Lines("a")), "[{1 a}]")
	is(t, rows(shell.Lines("a\n")), "[{1 a}]")
	is(t, rows(shell.Lines("\na b#\n")), "[{2 a b#}]")
	is(t, rows(shell.Lines("\n\n\n  x  # no remark")), "[{4   x  # no remark}]")
	for _, s := range []string{"", "\n", "\n\n", " ", "  \n   ", "#", " #", "   # a\n#\n#b\n"} {
		is(t, len(rows(shell.Lines(s))), 0)
	}
}

// All short texts of bytes that matter, and of some that don't.
func TestP18_1_AllShortTexts(t *testing.T) {
	n := 0
	var from func(s string, left int)
	from = func(s string, left int) {
		n++
		if have, want := rows(shell.Lines(s)), modelRows(s); !slices.Equal(have, want) {
			t.Fatalf("%q: have %v, want %v", s, have, want)
		}
		if left == 0 {
			return
		}
		for _, c := range []string{"a", " ", "#", "\n", "\t", "\"", "\r"} {
			from(s+c, left-1)
		}
	}
	from("", 6)
	is(t, n, 1+7+49+343+2401+16807+117649)
}

// Only the blank is one, and only the newline ends a line.
func TestP18_1_EachByte(t *testing.T) {
	for c := range 256 {
		s := string([]byte{byte(c)})
		want := []row{{1, s}}
		if strings.Contains("\n #", s) {
			want = nil
		}
		if have := rows(shell.Lines(s)); !slices.Equal(have, want) {
			t.Errorf("%q: %v", s, have)
		}
		want = []row{{2, "a" + s + "b"}, {3, "c"}}
		if s == "\n" {
			want = []row{{2, "a"}, {3, "b"}, {4, "c"}}
		}
		if have := rows(shell.Lines("\na" + s + "b\nc")); !slices.Equal(have, want) {
			t.Errorf("%q: %v", s, have)
		}
	}
}

// It may be gone over any number of times, also within another going over.
func TestP18_1_AgainAndAgain(t *testing.T) {
	l := shell.Lines("a\n#\nb\n\nc")
	want := "[{1 a} {3 b} {5 c}]"
	for range 3 {
		is(t, rows(l), want)
	}
	n := 0
	for range l {
		for range l {
			n++
		}
		is(t, rows(l), want)
		for range l {
			break
		}
	}
	is(t, n, 9)
	is(t, rows(l), want)
}

// It ends at once where the one that goes over it stops.
func TestP18_1_Stops(t *testing.T) {
	for _, s := range []string{"a\nb\nc\nd", "a\n#\nb\n\nc\n#\nd\n\n", "\n\na\nb\nc\nd\n"} {
		l := shell.Lines(s)
		all := rows(l)
		for stop := range all {
			var seen []row
			l(func(number int, line string) bool {
				seen = append(seen, row{number, line})
				return len(seen) <= stop
			})
			is(t, seen, all[:stop+1])
		}
		next, end := iter.Pull2(l)
		number, line, ok := next()
		is(t, fmt.Sprint(number, line, ok), fmt.Sprint(all[0].number, all[0].line, true))
		end()
		_, _, ok = next()
		is(t, ok, false)
	}
}

// Lines and texts may have any length here: the limits are Parse's.
func TestP18_1_Long(t *testing.T) {
	long := strings.Repeat("a", api.MaxScript+5)
	is(t, len(rows(shell.Lines(long))[0].line), len(long))
	blanks := strings.Repeat(" ", api.MaxLine+5)
	is(t, len(rows(shell.Lines(blanks+"\n"+blanks+"#"+long+"\n"))), 0)
	have := rows(shell.Lines(strings.Repeat("\n", api.MaxScript) + blanks + "a"))
	is(t, len(have), 1)
	is(t, have[0].number, api.MaxScript+1)
	is(t, have[0].line, blanks+"a")
	is(t, len(rows(shell.Lines(strings.Repeat("a\n", api.MaxActs+9)))), api.MaxActs+9)
}
