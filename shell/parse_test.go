package shell_test

import (
	"math/rand/v2"
	"strings"
	"testing"

	"synod/api"
	"synod/shell"
	"synod/text"
	"synod/world"
)

func give(client int) world.Act { return world.Act{Kind: world.WGive, Client: client} }

func TestP18_2_Parse(t *testing.T) {
	parses(t, one, shell.Script{Opts: oneOpts()})
	parses(t, lines("", "  # a remark", one, "", "give  1 ", "#give 2", " give 2"), shell.Script{
		Opts: oneOpts(), Acts: []world.Act{give(1), give(2)}, Lines: []int{5, 7},
	})
	parses(t, one+`
swap 1 -2 "a b" #old "#new"
pick 1 sync
cut 1 2`, shell.Script{
		Opts: oneOpts(),
		Acts: []world.Act{
			{Kind: world.WCall, Client: 1, Node: -2, Op: api.OpSwap, Key: "a b", Old: "#old", Value: "#new"},
			{Kind: world.WPick, Node: 1, N: 7},
			{Kind: world.WLink, Node: 1, N: 2},
		},
		Lines: []int{2, 3, 4},
	})
	// What the numbers are doesn't matter here.
	o := world.Opts{Nodes: -3, Clients: 1 << 62}
	parses(t, text.FormatOpts(o), shell.Script{Opts: o})
}

func TestP18_2_NothingSaid(t *testing.T) {
	for _, s := range []string{"", "\n", " ", "#", "# " + one, "\n \n#\n  #\n"} {
		faulty(t, s, 0, api.ErrWord)
	}
}

// Each error of a line, in the options' line and in an act's.
func TestP18_2_Errors(t *testing.T) {
	for _, x := range []struct {
		line string
		e    api.Errno
	}{
		{"\"", api.ErrForm}, {"\t", api.ErrForm}, {"give 1\r", api.ErrForm}, {"\x00", api.ErrForm}, {`"a"b`, api.ErrForm}, {"\xff", api.ErrForm},
		{"word", api.ErrWord}, {"Give 1", api.ErrWord}, {`""`, api.ErrWord}, {`"#"`, api.ErrWord}, {"history", api.ErrWord}, {">", api.ErrWord},
		{"give # 1", api.ErrWords},
		{strings.Repeat("a", api.MaxLine+1), api.ErrLong}, {"give 1" + strings.Repeat(" ", api.MaxLine), api.ErrLong},
	} {
		if x.e != api.ErrWords {
			faulty(t, x.line, 1, x.e)
			faulty(t, lines("", "#", x.line, one), 3, x.e)
		}
		faulty(t, lines(one, x.line), 2, x.e)
		faulty(t, lines("#", "", one, "give 1", "#", x.line+"\n\ngive 2"), 6, x.e)
	}
	// Only the first line that says something is the options'.
	faulty(t, "give 1", 1, api.ErrWord)
	faulty(t, lines("give 1", one), 1, api.ErrWord)
	faulty(t, lines(one, one), 2, api.ErrWord)
	faulty(t, lines("world 1", "give 1"), 1, api.ErrWords)
	faulty(t, lines(one+" 0"), 1, api.ErrWords)
	faulty(t, lines(strings.Replace(one, "10", "010", 1)), 1, api.ErrNumber)
	faulty(t, lines(one[:len(one)-1]+"1"), 1, api.ErrNumber)
	faulty(t, lines(one, "give"), 2, api.ErrWords)
	faulty(t, lines(one, "give 01"), 2, api.ErrNumber)
	faulty(t, lines(one, "tick 1 4611686018427387905"), 2, api.ErrNumber)
	faulty(t, lines(one, "pick 1 sink"), 2, api.ErrWord)
}

// The first line that is at fault counts, whatever the others' faults are.
func TestP18_2_TheFirstFault(t *testing.T) {
	wrong := []string{"\"", "word", "give", "give x", strings.Repeat("a", api.MaxLine+1)}
	errors := []api.Errno{api.ErrForm, api.ErrWord, api.ErrWords, api.ErrNumber, api.ErrLong}
	for i, a := range wrong {
		for _, b := range wrong {
			faulty(t, lines(one, "give 1", a, b), 3, errors[i])
			faulty(t, lines(one, "", a, "give 1", "#", b), 3, errors[i])
		}
	}
	faulty(t, lines("worl", "give", "\""), 1, api.ErrWord)
}

// A script may have MaxActs acts; the next one is too many, whatever stands in its line.
func TestP18_2_Many(t *testing.T) {
	full := one + "\n" + strings.Repeat("# a remark\ngive 1\n\n", api.MaxActs)
	want := shell.Script{Opts: oneOpts()}
	for i := range api.MaxActs {
		want.Acts = append(want.Acts, give(1))
		want.Lines = append(want.Lines, 3+3*i)
	}
	parses(t, full, want)
	parses(t, full+"#\n \n", want)
	for _, line := range []string{"give 1", "\"", "word", "give", "give x", strings.Repeat("a", api.MaxLine+1)} {
		faulty(t, full+line, 3*api.MaxActs+2, api.ErrMany)
		faulty(t, full+"\n#\n"+line+"\nword", 3*api.MaxActs+4, api.ErrMany)
	}
	// A fault above it goes ahead.
	faulty(t, lines(one, "word")+strings.Repeat("give 1\n", api.MaxActs+1), 2, api.ErrWord)
	faulty(t, one+"\n"+strings.Repeat("give 1\n", api.MaxActs-1)+"give\ngive 1\n", api.MaxActs+1, api.ErrWords)
	faulty(t, one+"\n"+strings.Repeat("give 1\n", api.MaxActs)+"give\n", api.MaxActs+2, api.ErrMany)
}

// A text of MaxScript bytes may be; one more is too long, whatever stands in it.
func TestP18_2_Long(t *testing.T) {
	fill := func(s string, n int) string { return s + strings.Repeat("\n", n-len(s)) }
	parses(t, fill(lines(one, "give 1"), api.MaxScript), shell.Script{Opts: oneOpts(), Acts: []world.Act{give(1)}, Lines: []int{2}})
	for _, s := range []string{lines(one, "give 1"), "word", "", lines(one, "give"), one + "\n" + strings.Repeat("give 1\n", api.MaxActs+1)} {
		faulty(t, fill(s, api.MaxScript+1), 0, api.ErrLong)
		faulty(t, fill(s, 2*api.MaxScript), 0, api.ErrLong)
	}
	faulty(t, fill("word", api.MaxScript), 1, api.ErrWord)
	faulty(t, fill("", api.MaxScript), 0, api.ErrWord)
	faulty(t, "#"+strings.Repeat("a", api.MaxScript-1), 0, api.ErrWord)
	faulty(t, "#"+strings.Repeat("a", api.MaxScript), 0, api.ErrLong)
}

// A line that says nothing says nothing whatever its length; one that says something may have MaxLine bytes.
func TestP18_2_LongLines(t *testing.T) {
	blanks := func(n int) string { return strings.Repeat(" ", n) }
	want := shell.Script{Opts: oneOpts(), Acts: []world.Act{give(1)}, Lines: []int{4}}
	parses(t, lines("#"+blanks(api.MaxLine), one, blanks(api.MaxLine+1), "give 1", blanks(2*api.MaxLine)+"#"), want)
	parses(t, lines("", one+blanks(api.MaxLine-len(one)), "", "give "+blanks(api.MaxLine-6)+"1"), want)
	faulty(t, lines("", one+blanks(api.MaxLine-len(one)+1), "", "give 1"), 2, api.ErrLong)
	faulty(t, lines("", one, "", "give "+blanks(api.MaxLine-5)+"1"), 4, api.ErrLong)
}

// modelParse goes through a text's lines, as the model has them, with what chapter 17 says of each.
func modelParse(script string) (shell.Script, int, api.Errno) {
	if len(script) > api.MaxScript {
		return shell.Script{}, 0, api.ErrLong
	}
	var s shell.Script
	all := modelRows(script)
	if len(all) == 0 {
		return s, 0, api.ErrWord
	}
	for i, x := range all {
		var e api.Errno
		var a world.Act
		if i == 0 {
			s.Opts, e = text.ParseOpts(x.line)
		} else if a, e = text.ParseAct(x.line); i > api.MaxActs {
			e = api.ErrMany
		}
		if e != api.OK {
			return shell.Script{}, x.number, e
		}
		if i > 0 {
			s.Acts = append(s.Acts, a)
			s.Lines = append(s.Lines, x.number)
		}
	}
	return s, 0, api.OK
}

// Texts of any lines, right ones and wrong ones, are what the model says.
func TestP18_2_Model(t *testing.T) {
	r := rand.New(rand.NewPCG(18, 2))
	right := []string{"", " ", "#", " # a", "give 1", "  tick 1 2", "put 1 1 a \"\"", "calm 1 1 ", "cut 1 2", "pick 1 sync", "\"give\" 1"}
	wrong := []string{"\t", "\"", "give", "give 1 1", "give x", one, "Give 1", "pick 1 x", "give 1\r"}
	counts := map[api.Errno]int{}
	for range 20000 {
		var l []string
		for range r.IntN(12) {
			l = append(l, right[r.IntN(len(right))])
			if r.IntN(20) == 0 {
				l[len(l)-1] = wrong[r.IntN(len(wrong))]
			}
			if r.IntN(8) == 0 {
				l = append(l, one)
			}
		}
		s := strings.Join(l, "\n")
		if r.IntN(3) > 0 {
			s = one + "\n" + s
		}
		want, line, e := modelParse(s)
		counts[e]++
		if e != api.OK {
			have, n, f := shell.Parse(s)
			if n != line || f != e || len(have.Acts)+len(have.Lines) > 0 || have.Opts != (world.Opts{}) {
				t.Fatalf("%q: have %v, line %d, %d; want line %d, %d", s, have, n, f, line, e)
			}
			continue
		}
		parses(t, s, want)
	}
	for _, e := range []api.Errno{api.OK, api.ErrForm, api.ErrWord, api.ErrWords, api.ErrNumber} {
		if counts[e] < 50 {
			t.Errorf("%d: %d times", e, counts[e])
		}
	}
}
