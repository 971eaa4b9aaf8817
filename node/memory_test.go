package node_test

import (
	"math/rand/v2"
	"testing"

	"synod/api"
	"synod/disk"
	"synod/kv"
	"synod/node"
)

// over writes a thing all over a list and its spare room.
func over[T any](l []T, x T) {
	for i := range l[:cap(l)] {
		l[:cap(l)][i] = x
	}
	_ = append(l, x, x, x)
}

// roomy is bytes with something behind them in their memory.
func roomy(b []byte) []byte {
	l := append(append([]byte(nil), b...), "behind"...)
	return l[:len(b)]
}

// overEvents writes all over events and what is in them.
func overEvents(l []node.Event) {
	for _, e := range l {
		over(e.Data, '!')
	}
	over(l, node.Event{Kind: 77, Number: 77})
}

func overEntries(l []api.Entry) {
	for _, e := range l {
		over(e.Data, '!')
	}
	over(l, api.Entry{Term: 77, Index: 77})
}

// A message that was delivered may be written over, and what lies behind it isn't read.
func TestP12_8_Deliver(t *testing.T) {
	k := made(t, opts(1, 3))
	for _, m := range []api.Message{vote(2, 3, 0, 0), app(2, 3, 0, 0, 2, commands(1, 1, put(1, 1, "a", "x")), empty(3, 2))} {
		b := roomy(framed(m))
		was := say(b[:cap(b)])
		is(t, k.n.Deliver(b), true)
		is(t, say(b[:cap(b)]), was)
		over(b, '!')
		k.picks("", node.PInbox)
		over(b, '?')
	}
	k.view("3 2 0 2; 2 0 2;")
	is(t, k.rest(), "sync 1, send 1>2 VoteAns t3, send 1>2 AppAns t3 i2, apply 1, apply 2")
	is(t, shownReply(k.n.Get("a")), "done x")
}

// Whatever is written into what a pick told, the node and other answers don't show it.
func TestP12_8_Events(t *testing.T) {
	play := func(harm bool) string {
		o := opts(1, 3)
		o.Every, o.Core.Batch = 2, 2
		k := serving(t, o)
		told, views := "", ""
		r := rand.New(rand.NewPCG(8, 12))
		for i := range 300 {
			switch i % 5 {
			case 0:
				k.n.Call(puts(i+1, "a", "x"))
			case 1:
				k.n.Call(gets(i+1, "a"))
			case 2:
				k.n.Deliver(framed(appYes(2+r.IntN(2), 1, r.IntN(20))))
			case 3:
				k.n.Deliver(framed(beatAns(2, 1, i)))
			}
			for kind := 1; kind < 10; kind++ {
				l, _ := k.n.Pick(kind)
				m, _ := k.n.Pick(kind)
				told += shown(l) + "; "
				later := shown(m)
				if harm {
					overEvents(l)
				}
				told += shown(m) + "; "
				if later != shown(m) {
					t.Fatalf("%s is %s now", later, shown(m))
				}
				if harm {
					overEvents(m)
				}
			}
			views += shownView(k.n.View()) + say(k.n.Sessions(), k.n.Get("a"))
		}
		return told + views + say(k.d.Files())
	}
	if play(false) != play(true) {
		t.Error("what was written into answers shows")
	}
}

func TestP12_8_Reads(t *testing.T) {
	k := led(t, opts(1, 1))
	for i := range 9 {
		k.calls(node.Call{ID: i, Command: put(i+1, 1, "a", "x")})
		k.rest()
		was := say(k.n.Log())
		sessions := say(k.n.Sessions())
		_, _, kept := k.n.Log()
		text := say(kept)
		_, _, l := k.n.Log()
		overEntries(l)
		over(k.n.Sessions(), kv.Session{Client: 77, Seq: 77})
		is(t, say(k.n.Log()), was)
		is(t, say(k.n.Sessions()), sessions)
		is(t, say(kept), text)
		overEntries(kept)
	}
	k.calls(gets(99, "a"))
	is(t, k.rest(), "reply 99 done x")
	k.n.Stop()
	k.rest()
	is(t, opened(t, opts(1, 1), k.d).n.View().Core.Last, 10)
}

// Log tells of lists that the lanes and the jobs have; each is its own.
func TestP12_8_LogAndQueues(t *testing.T) {
	k := serving(t, opts(1, 3))
	k.calls(puts(7, "a", "x"))
	k.picks("", node.PCall, node.PWork)
	_, _, l := k.n.Log()
	overEntries(l)
	e, _ := k.n.Pick(node.PSend)
	is(t, shown(e), "send 1>2 App t1 i1 l1 c1 [2/1x]")
	m, _ := message(e[0].Data)
	is(t, string(m.Entries[0].Data), string(commands(1, 2, puts(7, "a", "x").Command).Data))
	overEvents(e)
	overEntries(m.Entries)
	k.picks("sync 4", node.PWrite, node.PSync)
	d, _ := disk.Load(k.d.Files())
	is(t, say(opened(t, opts(1, 3), d).n.Log()), say(k.n.Log()))
}

// What Play is given isn't changed and isn't kept; what it answers is new.
func TestP12_8_Play(t *testing.T) {
	o := opts(1, 3)
	o.Every, o.Core.Election = 2, 2
	r := rand.New(rand.NewPCG(81, 12))
	files := written(t, termed(1, 0, 1, of(1, 1, 1)...)).Files()
	files = append(files, api.File{Name: "other", Data: []byte("abc"), Synced: 2})
	for i := range files {
		files[i].Data = roomy(files[i].Data)
	}
	acts := someActs(r, 400)
	for i := range acts {
		acts[i].Data = roomy(acts[i].Data)
	}
	was := say(files, acts)
	shows := func(l []node.Told, files []api.File) string {
		s := say(files)
		for _, x := range l {
			s += shownTold(x)
		}
		return s
	}
	l, left, e := node.Play(o, files, 0, acts)
	first := shows(l, left)
	is(t, say(e, say(files, acts) == was), "0 true")
	m, right, _ := node.Play(o, files, 0, acts)
	for i := range l {
		overEvents(l[i].Events)
	}
	over(l, node.Told{})
	for i := range left {
		over(left[i].Data, '!')
	}
	over(left, api.File{})
	is(t, shows(m, right) == first, true)
	is(t, say(files, acts) == was, true)
	// Of two lists of one answer neither shows the other.
	for i := range m {
		rest := shows(m[i+1:], right)
		overEvents(m[i].Events)
		is(t, shows(m[i+1:], right) == rest, true)
	}
}

// Nodes know nothing of one another.
func TestP12_8_Apart(t *testing.T) {
	files := led(t, opts(1, 1)).d.Files()
	one, _ := disk.Load(files)
	two, _ := disk.Load(files)
	a, b := opened(t, opts(1, 1), one), opened(t, opts(1, 1), two)
	was := shownView(b.n.View())
	a.ticks(10)
	a.calls(puts(1, "a", "x"))
	a.rest()
	a.n.Stop()
	a.rest()
	b.view(was)
	is(t, say(b.n.Get("a"), b.n.Done()), "{2 } false")
}
