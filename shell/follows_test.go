package shell_test

import (
	"fmt"
	"math/rand/v2"
	"strings"
	"testing"

	"synod/api"
	"synod/shell"
	"synod/text"
	"synod/world"
)

// anyAct is an act of any kind that has a line.
func anyAct(r *rand.Rand) world.Act {
	n := func() int { return []int{0, 1, -1, 5, 200, 1 << 62, -1 << 62}[r.IntN(7)] }
	s := func() string {
		b := make([]byte, r.IntN(6))
		for i := range b {
			b[i] = []byte{'a', '#', ' ', '"', '\\', '\n', 0, 0xff, 'x', '~'}[r.IntN(10)]
		}
		return string(b)
	}
	switch a := (world.Act{Kind: 1 + r.IntN(world.WCalm), Node: n(), N: n()}); a.Kind {
	case world.WPick:
		a.N = 1 + r.IntN(9)
		return a
	case world.WDeliver, world.WDrop, world.WCopy:
		a.Node = 0
		return a
	case world.WSpoil, world.WMove:
		a.Node, a.M = 0, n()
		return a
	case world.WLink:
		a.M = r.IntN(2)
		return a
	case world.WStop:
		a.N = 0
		return a
	case world.WGive:
		return give(n())
	case world.WAgain:
		return world.Act{Kind: a.Kind, Node: a.Node, Client: n()}
	case world.WCall:
		a = world.Act{Kind: a.Kind, Node: a.Node, Client: n(), Op: 1 + r.IntN(4), Key: s()}
		if a.Op == api.OpPut || a.Op == api.OpSwap {
			a.Value = s()
		}
		if a.Op == api.OpSwap {
			a.Old = s()
		}
		return a
	default:
		return a
	}
}

// Parse of Format is the script; its acts stand one below the other then.
func TestP18_6_ThereAndBack(t *testing.T) {
	r := rand.New(rand.NewPCG(18, 6))
	for i := range 3000 {
		s := shell.Script{Opts: oneOpts()}
		s.Opts.Nodes, s.Opts.Node.Out = r.IntN(9)-1, 1<<62-r.IntN(2)
		for range r.IntN(20) {
			s.Acts = append(s.Acts, anyAct(r))
			s.Lines = append(s.Lines, len(s.Lines)+2)
		}
		want := s
		s.Lines = [][]int{nil, {5}, s.Lines}[i%3]
		plain, e := shell.Format(s)
		if e != api.OK {
			t.Fatalf("%v: %d", s, e)
		}
		parses(t, plain, want)
		formats(t, want, plain)
	}
}

// The greatest scripts, there and back.
func TestP18_6_Great(t *testing.T) {
	s := actsOf(api.MaxScript)
	plain, _ := shell.Format(s)
	for i := range s.Acts {
		s.Lines = append(s.Lines, i+2)
	}
	parses(t, plain, s)
	s = shell.Script{Opts: oneOpts()}
	for i := range api.MaxActs {
		s.Acts = append(s.Acts, world.Act{Kind: world.WTick, Node: i, N: -i})
		s.Lines = append(s.Lines, i+2)
	}
	plain, _ = shell.Format(s)
	parses(t, plain, s)
}

// What Play tells of a text it tells of the Format of its Parse, however it was written.
func TestP18_6_Played(t *testing.T) {
	for seed := range uint64(40) {
		p := newAuthor(t, 600+seed)
		p.goOn(300)
		loose := loosely(p.r, p.lines)
		s, _, e := shell.Parse(loose)
		is(t, e, api.OK)
		plain, e := shell.Format(s)
		is(t, e, api.OK)
		is(t, plain, p.script())
		want, _, _ := shell.Play(loose)
		plays(t, plain, want)
	}
}

// front is what a transcript tells ahead of the history.
func front(t *testing.T, transcript string) string {
	t.Helper()
	s, behind, ok := strings.Cut("\n"+transcript, "\nhistory\n")
	if !ok || strings.Contains(behind, "> ") {
		t.Fatalf("%s", short(transcript))
	}
	return strings.TrimPrefix(s+"\n", "\n")
}

// Without its last acts a text tells the front of what it tells of all.
func TestP18_7_ABeginning(t *testing.T) {
	for seed := range uint64(12) {
		p := newAuthor(t, 700+seed)
		p.goOn(150)
		whole, _, _ := shell.Play(p.script())
		all := front(t, whole)
		ahead := -1
		for n := 1; n <= len(p.lines); n += 1 + p.r.IntN(3) {
			s, line, e := shell.Play(lines(p.lines[:n]...))
			if line != 0 || e != api.OK {
				t.Fatalf("%d lines: line %d, %d", n, line, e)
			}
			part := front(t, s)
			if !strings.HasPrefix(all, part) || len(part) <= ahead {
				t.Fatalf("%d lines: have %s\nof %s", n, short(part), short(all))
			}
			is(t, strings.Count("\n"+part, "\n> "), n-1)
			ahead = len(part)
		}
	}
}

// Whatever happens, what the clients are told could have come from one map.
func TestP18_8_Linear(t *testing.T) {
	replies := map[string]int{}
	for seed := range uint64(120) {
		p := newAuthor(t, 800+seed)
		p.goOn(900)
		script := p.script()
		calls := map[string]int{}
		for _, x := range p.w.History() {
			calls[x.Key]++
		}
		for key, n := range calls {
			if n >= api.MaxOps {
				t.Fatalf("seed %d: %d calls of %s", seed, n, key)
			}
		}
		s, _, e := shell.Play(script)
		want := "linear yes\n"
		if len(p.w.History()) > api.MaxHistory {
			want = "linear err 23\n"
		}
		if e != api.OK || !strings.HasSuffix(s, "\n"+want) {
			t.Fatalf("seed %d: %d, %s\n%s", seed, e, s[strings.LastIndex(s, "history"):], script)
		}
		for _, x := range p.w.History() {
			replies[fmt.Sprint(text.Reply(api.Reply{Code: x.Reply.Code}), x.Kind)]++
		}
	}
	for _, word := range strings.Fields("?2 ?3 ?4 done1 done2 done3 done4 none1 none3 none4 other4") {
		if replies[word] < 20 {
			t.Errorf("%s: %d", word, replies[word])
		}
	}
}
