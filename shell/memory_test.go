package shell_test

import (
	"fmt"
	"slices"
	"strings"
	"sync"
	"testing"

	"synod/api"
	"synod/shell"
	"synod/world"
)

// over writes a thing all over a list and its spare room.
func over[T any](l []T, x T) {
	for i := range l[:cap(l)] {
		l[:cap(l)][i] = x
	}
	_ = append(l, x, x, x)
}

// Whatever is written into an answer, or behind it, no other one shows it.
func TestP18_5_ParseIsNew(t *testing.T) {
	for n := range 70 {
		script := one + "\n" + strings.Repeat("tick 1 2\n# a\n", n)
		s, _, _ := shell.Parse(script)
		other, _, _ := shell.Parse(script)
		is(t, len(s.Acts), n)
		want := fmt.Sprint(other)
		is(t, fmt.Sprint(s), want)
		over(s.Lines, -1)
		is(t, fmt.Sprint(s.Acts), fmt.Sprint(other.Acts))
		over(s.Acts, world.Act{Kind: -1, Key: "!"})
		is(t, fmt.Sprint(s.Lines), fmt.Sprint(slices.Repeat([]int{-1}, n)))
		is(t, fmt.Sprint(other), want)
		again, _, _ := shell.Parse(script)
		is(t, fmt.Sprint(again), want)
	}
}

// What is handed in is not changed, and what lies behind it is neither read nor written.
func TestP18_5_HandedInStays(t *testing.T) {
	for n := range 40 {
		acts := append(slices.Repeat([]world.Act{give(n)}, n), world.Act{}, put(api.MaxLine), world.Act{Kind: 99})
		places := []int{9, 8, 7, 6}
		s := shell.Script{Opts: oneOpts(), Acts: acts[:n], Lines: places[:2]}
		was := fmt.Sprint(acts, places)
		plain, e := shell.Format(s)
		is(t, e, api.OK)
		is(t, plain, one+"\n"+strings.Repeat(fmt.Sprintf("give %d\n", n), n))
		is(t, fmt.Sprint(acts, places), was)
		over(acts, give(0))
		over(places, 0)
		is(t, plain, one+"\n"+strings.Repeat(fmt.Sprintf("give %d\n", n), n))
	}
	// Nothing behind the acts counts: there may be MaxActs of them, and more in their memory.
	many := slices.Repeat([]world.Act{give(1)}, api.MaxActs+5)
	formats(t, shell.Script{Opts: oneOpts(), Acts: many[:api.MaxActs]}, one+"\n"+strings.Repeat("give 1\n", api.MaxActs))
}

// A call knows nothing of the calls ahead of it, whatever they were.
func TestP18_5_NothingIsKept(t *testing.T) {
	long := lines(wordy(1100)...)
	for range 3 {
		plays(t, one, "history\nlinear yes\n")
		faulty(t, lines("", one, "tick"), 3, api.ErrWords)
		plays(t, lines(one, "put 1 1 a x", "calm 1 1"), "> put 1 1 a x\nok\n> calm 1 1\nok\nback 1 1 lead\nhistory\n1 1 put a x \"\" 1 open\nlinear yes\n")
		if s, line, e := shell.Play(long); s != "" || line < 100 || e != api.ErrLong {
			t.Fatalf("%s, line %d, %d", short(s), line, e)
		}
		parses(t, lines(one, "give 1"), shell.Script{Opts: oneOpts(), Acts: []world.Act{give(1)}, Lines: []int{2}})
		formats(t, shell.Script{Opts: oneOpts(), Acts: []world.Act{give(2)}}, lines(one, "give 2"))
	}
}

// Several goroutines may call: each gets what it gets alone.
func TestP18_5_Alone(t *testing.T) {
	p := newAuthor(t, 5)
	p.goOn(300)
	script := p.script()
	want, _, _ := shell.Play(script)
	var all sync.WaitGroup
	have := make([]string, 8)
	for i := range have {
		all.Go(func() {
			s, _, _ := shell.Parse(script)
			plain, _ := shell.Format(s)
			have[i], _, _ = shell.Play(plain)
		})
	}
	all.Wait()
	for _, s := range have {
		is(t, s, want)
	}
}
