package shell_test

import (
	"fmt"
	"math/rand/v2"
	"slices"
	"strings"
	"testing"

	"synod/api"
	"synod/lin"
	"synod/shell"
	"synod/text"
	"synod/world"
)

// modelPlay puts a transcript together out of what world.Run answers.
func modelPlay(script string) (string, int, api.Errno) {
	s, line, e := modelParse(script)
	if e != api.OK {
		return "", line, e
	}
	told, history, e := world.Run(s.Opts, s.Acts)
	last := modelRows(script)[0].number
	if e != api.OK {
		return "", last, e
	}
	all := ""
	for i, a := range s.Acts {
		last = s.Lines[i]
		line, e := text.FormatAct(a)
		all += "> " + line + "\n" + lines(text.FormatTold(told[i])...)
		if e == api.OK && len(all) > api.MaxTell {
			e = api.ErrLong
		}
		if e != api.OK {
			return "", last, e
		}
	}
	all += "history\n"
	for _, x := range history {
		all += text.FormatOp(x) + "\n"
	}
	ok, e := lin.Check(history)
	all += map[bool]string{true: "linear yes\n", false: "linear no\n"}[ok && e == api.OK]
	if e != api.OK {
		all = strings.TrimSuffix(all, "no\n") + fmt.Sprint("err ", int(e)) + "\n"
	}
	if len(all) > api.MaxTell {
		return "", last, api.ErrLong
	}
	return all, 0, api.OK
}

// asModel holds that Play answers what the model does.
func asModel(t *testing.T, script string) (string, int, api.Errno) {
	t.Helper()
	s, line, e := shell.Play(script)
	want, n, f := modelPlay(script)
	if s != want || line != n || e != f {
		t.Fatalf("%s: have %s, line %d, %d; want %s, line %d, %d", short(script), short(s), line, e, short(want), n, f)
	}
	return s, line, e
}

// Without acts there is a transcript, too.
func TestP18_4_NoActs(t *testing.T) {
	plays(t, one, "history\nlinear yes\n")
	plays(t, "\n # \n"+one+"\n#\n\n", "history\nlinear yes\n")
}

// Each way in which an act is told; acts are told as they are written by FormatAct, whatever stood in their lines.
func TestP18_4_Acts(t *testing.T) {
	plays(t, lines(one, " \"tick\"  2 0", "tick 1 -5", "pick 1 sync", "calm 1 201", "put 1 1 #a \"b\"", "put 1 1 \"\" \"\\x0a\"", "crash 1 0", "again 1 1", "give 2"),
		`> tick 2 0
err 8
> tick 1 -5
ok
> pick 1 sync
no
> calm 1 201
err 1
> put 1 1 "#a" b
ok
> put 1 1 "" "\x0a"
err 9
> crash 1 0
ok
> again 1 1
ok
back 1 1 down
> give 2
err 9
history
1 1 put "#a" b "" 5 open
linear yes
`)
}

// The history is told in the order of the calls, with each kind, open and answered.
func TestP18_4_History(t *testing.T) {
	s := lines(one, "calm 1 10", "put 1 1 a \"x y\"", "get 2 1 a", "calm 1 1", "swap 1 1 a x z", "delete 2 1 b", "calm 1 1", "get 1 1 \"\"", "delete 1 1 a")
	have, _, e := shell.Play(s)
	if e != api.OK {
		t.Fatal(e)
	}
	_, history, _ := strings.Cut(have, "history\n")
	is(t, history, `1 1 put a "x y" "" 2 4 done
2 0 get a "" "" 3 4 none
1 2 swap a z x 5 7 other "x y"
2 1 delete b "" "" 6 7 none
1 0 get "" "" "" 8 8 limit
1 3 delete a "" "" 9 open
linear yes
`)
}

// What a world can't be made of is told with the options' line, wherever it stands, and behind Parse's errors.
func TestP18_4_Options(t *testing.T) {
	numbers := strings.Fields(one)[1:]
	for i, bad := range []string{"8", "17", "1", "10", "65", "65", "65", "10001", "10001", "10001", "63", "65", "0", "-1", "65", "0", "65"} {
		l := strings.Fields(one)
		l[1+i] = bad
		s := strings.Join(l, " ")
		unplayed(t, s, 1, api.ErrOpts)
		unplayed(t, lines("# "+one, "", s, "calm 1 1", "#"), 3, api.ErrOpts)
		faulty(t, lines("", s, "calm 1"), 3, api.ErrWords)
		if _, line, e := shell.Parse(lines("", s, "calm 1 1")); line != 0 || e != api.OK {
			t.Errorf("%s: line %d, %d", s, line, e)
		}
		l[1+i] = numbers[i]
		plays(t, strings.Join(l, "  "), "history\nlinear yes\n")
	}
}

// A history that can't be judged: too many operations, in all or of one key.
func TestP18_4_Unjudged(t *testing.T) {
	for _, x := range []struct {
		calls int
		key   func(i int) string
		want  string
	}{
		{api.MaxOps, func(int) string { return "a" }, "yes"},
		{api.MaxOps + 1, func(int) string { return "a" }, "err 23"},
		{api.MaxHistory, func(i int) string { return fmt.Sprint(i) }, "yes"},
		{api.MaxHistory + 1, func(i int) string { return fmt.Sprint(i) }, "err 23"},
	} {
		l := []string{one}
		for i := range x.calls {
			l = append(l, "put 1 1 "+x.key(i)+" v", "give 1")
		}
		s, _, e := asModel(t, lines(l...))
		is(t, e, api.OK)
		is(t, s[strings.LastIndex(s, "linear"):], "linear "+x.want+"\n")
	}
}

// A line that is short enough may be too long as it is written: then it has no transcript.
func TestP18_4_LongAct(t *testing.T) {
	line := "get 1 1 #" + strings.Repeat("a", api.MaxLine-len("get 1 1 #"))
	if s, n, e := shell.Parse(lines(one, line)); len(s.Acts) != 1 || n != 0 || e != api.OK {
		t.Fatalf("line %d, %d", n, e)
	}
	unplayed(t, lines(one, line), 2, api.ErrLong)
	unplayed(t, lines("", one, "calm 1 10", "", line, "give 1"), 5, api.ErrLong)
	asModel(t, lines(one, line[:len(line)-2]))
	asModel(t, lines(one, line[:len(line)-1]))
	asModel(t, lines(one, "get 1 1 #"+strings.Repeat(`\`, 2500)))
	// The options' fault goes ahead.
	unplayed(t, lines(strings.Replace(one, "1 2", "1 0", 1), line), 1, api.ErrOpts)
}

// wordy is a script in which so many reads bring a long value: in the acts' lines and once more in the history.
func wordy(reads int) []string {
	l := []string{"# much is told", one, "calm 1 10", `put 1 1 a "` + strings.Repeat(`\x00`, 1000) + `"`, "calm 1 1"}
	for range reads {
		l = append(l, "get 1 1 a", "calm 1 1")
	}
	return l
}

// padded lays acts behind that tell so many bytes more, and stand in no history.
func padded(l []string, more int) []string {
	const least = len("> get 9 1 k\nerr 8\n")
	l = slices.Clone(l)
	for more > 0 {
		n := min(more, 4000)
		if rest := more - n; rest > 0 && rest < least {
			n -= least
		}
		l = append(l, "get 9 1 "+strings.Repeat("k", 1+n-least), "", "# on")
		more -= n
	}
	return l
}

// told is how many bytes the acts tell, and how many all do.
func told(t *testing.T, l []string) (acts, all int) {
	t.Helper()
	s, _, e := modelParse(lines(l...))
	told, history, f := world.Run(s.Opts, s.Acts)
	if e != api.OK || f != api.OK {
		t.Fatal(e, f)
	}
	for i, a := range s.Acts {
		line, _ := text.FormatAct(a)
		acts += len("> \n") + len(line) + len(lines(text.FormatTold(told[i])...))
	}
	all = acts + len("history\n")
	for _, x := range history {
		all += len(text.FormatOp(x) + "\n")
	}
	if len(history) > api.MaxHistory {
		return acts, all + len("linear err 23\n")
	}
	return acts, all + len("linear yes\n")
}

// A transcript of MaxTell bytes may be; where only what stands behind the acts passes that, the last line is told.
func TestP18_4_LongHistory(t *testing.T) {
	l := wordy(500)
	_, all := told(t, l)
	full := padded(l, api.MaxTell-all)
	s, line, e := shell.Play(lines(full...))
	if len(s) != api.MaxTell || line != 0 || e != api.OK {
		t.Fatalf("%d bytes, line %d, %d", len(s), line, e)
	}
	for _, more := range []int{1, 2, 3000} {
		l := padded(l, api.MaxTell-all+more)
		last := len(l) - 2
		unplayed(t, lines(l...), last, api.ErrLong)
		unplayed(t, strings.Join(l[:last], "\n"), last, api.ErrLong)
	}
	// An operation more is too much, too, though its act tells little.
	unplayed(t, lines(append(full, "get 1 1 a")...), len(full)+1, api.ErrLong)
}

// The first act whose lines pass MaxTell is told, whatever stands behind it.
func TestP18_4_LongActs(t *testing.T) {
	l := wordy(900)
	acts, _ := told(t, l)
	// The acts tell just MaxTell bytes: the history passes it.
	full := padded(l, api.MaxTell-acts)
	unplayed(t, lines(full...), len(full)-2, api.ErrLong)
	// One byte more, by the last of them.
	over := padded(l, api.MaxTell-acts+1)
	unplayed(t, lines(over...), len(over)-2, api.ErrLong)
	unplayed(t, lines(append(over, "give 1", "calm 1 1")...), len(over)-2, api.ErrLong)
	// Where there is no room left it is the next act.
	unplayed(t, lines(append(full, "#", "give 1", "give 1")...), len(full)+2, api.ErrLong)
	// What it tells counts, not the line that says it alone: there is room for that one, and not for what comes of it.
	for _, room := range []int{1, len("> calm 1 1\n"), len("> calm 1 1\nok\n"), len("> calm 1 1\nok\nback 1 1 done") + 100} {
		less := padded(l, api.MaxTell-acts-room-len("> get 1 1 a\nok\n"))
		unplayed(t, lines(append(less, "get 1 1 a", "calm 1 1", "give 9")...), len(less)+2, api.ErrLong)
	}
	// Faults of the text go ahead of all that is told.
	faulty(t, lines(append(over, "give")...), len(over)+1, api.ErrWords)
}

// Scripts in which much happens, with remarks and blanks between, are what the model says.
func TestP18_4_Model(t *testing.T) {
	seen := map[string]int{}
	for seed := range uint64(60) {
		p := newAuthor(t, 400+seed)
		p.goOn(400)
		s, _, e := asModel(t, loosely(p.r, p.lines))
		is(t, e, api.OK)
		for line := range strings.Lines(s) {
			word, _, _ := strings.Cut(strings.TrimSpace(line), " ")
			seen[word]++
		}
	}
	for _, word := range strings.Fields("> ok no err send sync apply snap down end back history linear 1 2") {
		if seen[word] < 20 {
			t.Errorf("%s is told %d times", word, seen[word])
		}
	}
	is(t, seen["?"], 0)
}

// loosely writes a script's lines otherwise: with blanks, remarks, empty lines between.
func loosely(r *rand.Rand, l []string) string {
	var b strings.Builder
	for _, line := range l {
		for r.IntN(4) == 0 {
			b.WriteString([]string{"\n", "# a remark\n", "   \n", "  #\n", "#" + strings.Repeat("x", r.IntN(9)) + "\n"}[r.IntN(5)])
		}
		words, _ := text.Words(line)
		for _, word := range words {
			b.WriteString(strings.Repeat(" ", r.IntN(3)))
			// A word that may stand bare may stand in quotes, too.
			if q := text.Quote(word); r.IntN(5) == 0 && q == word && !strings.Contains(q, `\`) {
				b.WriteString(`"` + word + `" `)
			} else {
				b.WriteString(q + " ")
			}
		}
		b.WriteString("\n")
	}
	s := b.String()
	if r.IntN(2) == 0 {
		return s[:len(s)-1]
	}
	return s
}
