package world_test

import (
	"fmt"
	"math/rand/v2"
	"slices"
	"strings"
	"testing"

	"synod/api"
	"synod/codec"
	"synod/net"
	"synod/node"
	"synod/shell"
	"synod/text"
	"synod/world"
)

// P0.8 to P0.15 where it matters most: scripts that lead there, with a watch on all that happens.

// trio are three nodes, with a snapshot whenever so many entries were applied.
func trio(every int) string {
	return fmt.Sprintf("world 3 3 10 1 8 4 4 100 %d 0 4096 12 8 8 8 8 12 0", every)
}

// scene is a world of a script, watched.
func scene(t *testing.T, lines ...string) *watch {
	t.Helper()
	s, line, e := shell.Parse(lines[0])
	if e != api.OK {
		t.Fatalf("line %d: %d", line, e)
	}
	w := newWatch(&play{t: t, o: s.Opts, w: with(t, s.Opts)}, "", map[string]int{})
	w.says(lines[1:]...)
	return w
}

// says plays lines, each of which has to be done; what they told.
func (w *watch) says(lines ...string) string {
	w.t.Helper()
	var told []string
	for _, line := range lines {
		a, e := text.ParseAct(line)
		if e != api.OK {
			w.t.Fatalf("%s: %d", line, e)
		}
		x := w.step(a)
		if !x.Did {
			w.t.Fatalf("%s: %s", line, shownAll(x))
		}
		told = append(told, shownAll(x))
	}
	return strings.Join(told, "; ")
}

// until lets calm rounds pass, act by act, up to the one behind which something is the case.
func (w *watch) until(quick int, what string, so func() bool) {
	w.t.Helper()
	for range 100 {
		done := so()
		byHand(w.w, w.o, quick, func(a world.Act) world.Told {
			if done {
				return world.Told{}
			}
			x := w.step(a)
			done = so()
			return x
		})
		if done {
			return
		}
	}
	w.t.Fatalf("it is never so that %s", what)
}

// leadsNow lets calm rounds pass until a node leads, and no further.
func (w *watch) leadsNow(id int) {
	w.t.Helper()
	w.until(id, say(id, "leads"), func() bool { return w.w.Leader() == id })
}

// alone cuts a node off from these.
func (w *watch) alone(id int, others ...int) {
	w.t.Helper()
	for _, other := range others {
		w.says(say("cut", id, other))
	}
}

// linked links all nodes.
func (w *watch) linked() {
	w.t.Helper()
	for id := 1; id <= w.o.Nodes; id++ {
		for other := 1; other < id; other++ {
			w.says(say("link", id, other))
		}
	}
}

// asks lets a node stand, and send what it asks for.
func (w *watch) asks(id int) {
	w.t.Helper()
	for range 10 {
		w.says(say("tick", id, 0), say("pick", id, "tick"))
	}
	w.speaks(id)
	w.says(say("pick", id, "send"))
}

// brings delivers the first mail for a node, and lets the node take it.
func (w *watch) brings(id int) {
	w.t.Helper()
	for i, x := range w.w.Mail() {
		if x.To == id {
			w.says(say("deliver", i), say("pick", id, "inbox"))
			return
		}
	}
	w.t.Fatalf("there is no mail for node %d", id)
}

// speaks lets a node write down what it has to, and send what waits for that.
func (w *watch) speaks(id int) {
	w.t.Helper()
	w.says(say("pick", id, "work"), say("pick", id, "write"), say("pick", id, "sync"), say("pick", id, "send"))
}

// mailOf is the place of the first mail of this kind; -1, if there is none.
func (w *watch) mailOf(kind int) int {
	return slices.IndexFunc(w.w.Mail(), func(x net.Mail) bool {
		m, _ := letter(x.Data)
		return m.Kind == kind
	})
}

// silent holds that a node has nothing to send.
func (w *watch) silent(id int) {
	w.t.Helper()
	is(w.t, shownAll(w.step(pick(id, node.PSend))), "no")
}

// loses lets all mail be lost.
func (w *watch) loses() {
	w.t.Helper()
	for len(w.w.Mail()) > 0 {
		w.says("drop 0")
	}
}

// terms are the terms of a node's entries.
func (w *watch) terms(id int) string {
	_, _, l := w.w.Log(id)
	var terms []any
	for _, e := range l {
		terms = append(terms, e.Term)
	}
	return say(terms...)
}

// back is when and how the last operation of a client was answered.
func (w *watch) back(client int) string {
	for _, x := range slices.Backward(w.w.History()) {
		if x.Client == client && x.Back > 0 {
			return replied(x.Reply)
		} else if x.Client == client {
			return "open"
		}
	}
	return "none"
}

// A vote that was sent is kept through a crash; one that wasn't written may be given to another one. In no case both lead.
func TestP0_8_AVoteThroughACrash(t *testing.T) {
	steps := strings.Fields("inbox work write sync send")
	for done := range len(steps) + 1 {
		for _, keep := range []int{0, 3, 12, 9999} {
			w := scene(t, trio(0))
			w.asks(1)
			w.says("deliver 0")
			w.loses() // node 3 hears nothing of it
			for _, s := range steps[:done] {
				w.says("pick 2 " + s)
			}
			if done < 4 {
				w.silent(2)
			}
			w.says(say("crash", 2, keep), "start 2 0")
			kept := done >= 4 || done == 3 && keep >= 12
			vote := view(t, w.w, 2).Core
			if kept {
				is(t, say(vote.Term, vote.Vote), "1 1")
			} else {
				is(t, say(vote.Term, vote.Vote), "0 0")
			}
			w.asks(3)
			w.says("calm 3 3")
			want := 3
			if done == 5 {
				want = 1
			} else if kept {
				want = 0 // it has voted, and nobody heard of it
			}
			is(t, w.w.Leader(), want)
			w.end()
		}
	}
}

// One that led is behind a crash one that has voted for itself in that term.
func TestP0_8_ALeaderThroughACrash(t *testing.T) {
	for _, keep := range []int{0, 5, 9999} {
		w := scene(t, trio(0))
		w.leadsNow(1)
		w.says(say("crash", 1, keep), "start 1 0")
		v := view(t, w.w, 1).Core
		is(t, say(v.Term, v.Vote, v.Role), say(1, 1, api.Follower))
		w.says("calm 2 40")
		is(t, w.w.Leader(), 2)
		w.end()
	}
}

// A candidate whose term isn't durable has asked nobody for a vote.
func TestP0_8_NothingAskedAheadOfTheSync(t *testing.T) {
	w := scene(t, trio(0))
	for range 10 {
		w.says("tick 1 0", "pick 1 tick")
	}
	w.says("pick 1 work")
	w.silent(1)
	w.says("pick 1 write")
	w.silent(1)
	w.says("crash 1 0", "start 1 0")
	is(t, view(t, w.w, 1).Core.Term, 0)
	w.asks(1)
	is(t, len(w.w.Mail()), 2)
}

// A vote of an earlier term doesn't count for one that stands again.
func TestP0_8_OldVotes(t *testing.T) {
	w := scene(t, trio(0))
	w.asks(1)
	w.brings(2)
	w.speaks(2)
	w.asks(1)
	w.asks(3)
	w.asks(3)
	is(t, say(view(t, w.w, 1).Core.Term, view(t, w.w, 2).Core.Term, view(t, w.w, 3).Core.Term), "2 1 2")
	// Node 1 hears of the vote of term 1; node 3 gets the one of term 2.
	for i, x := range w.w.Mail() {
		if m, _ := letter(x.Data); m.Kind == api.MVoteAns {
			w.says(say("deliver", i), "pick 1 inbox")
			break
		}
	}
	is(t, view(t, w.w, 1).Core.Role, api.Candidate)
	for _, x := range slices.Backward(w.w.Mail()) {
		at := slices.IndexFunc(w.w.Mail(), func(y net.Mail) bool { return y.Number == x.Number })
		if x.From != 3 {
			w.says(say("drop", at))
		}
	}
	w.says("calm 3 1")
	is(t, w.w.Leader(), 3)
	is(t, view(t, w.w, 3).Core.Term, 2)
	w.end()
}

// What an earlier term has left isn't committed by a quorum that has it: another one may still take its place.
func TestP0_9_EarlierTerms(t *testing.T) {
	w := scene(t, "world 5 2 10 1 1 1 4 100 0 0 4096 20 8 8 8 8 20 0", "calm 1 12")
	is(t, w.w.Leader(), 1)
	// Nodes 1 and 2 have an entry that the others haven't.
	w.alone(1, 3, 4, 5)
	w.says("put 1 1 a x", "calm 1 2", "crash 1 0")
	is(t, say(w.terms(2), w.terms(3)), "1 1 1")
	// Node 5 leads, and has another one in its place, that nobody else has.
	w.alone(2, 3, 4, 5)
	w.leadsNow(5)
	w.alone(5, 3, 4)
	w.says("calm 5 2", "crash 5 0")
	other := w.terms(5)
	is(t, strings.HasPrefix(other, "1 ") && other != "1 1", true)
	is(t, w.terms(4), "1")
	// Node 1 leads again, and lets node 3 have the first one, too: a quorum has it then.
	w.linked()
	w.says("start 1 0")
	w.leadsNow(1)
	w.until(1, "node 3 is sent the third one", func() bool {
		for _, x := range w.w.Mail() {
			if m, _ := letter(x.Data); x.To == 3 && m.Kind == api.MApp && m.Index == 2 && len(m.Entries) == 1 {
				return w.terms(3) == "1 1"
			}
		}
		return false
	})
	is(t, view(t, w.w, 1).Core.Commit, 1)
	// Node 5 leads, and all have its entry then.
	w.says("crash 1 0", "start 5 0")
	w.loses()
	w.leadsNow(5)
	w.says("start 1 0", "calm 5 20")
	is(t, w.w.Leader(), 5)
	for id := range 5 {
		is(t, strings.HasPrefix(w.terms(id+1), other+" "), true)
		is(t, replied(w.w.Get(id+1, "a")), "none")
	}
	w.end()
}

// A leader that is alone has entries that nobody else gets; another one's take their place.
func TestP0_9_Replaced(t *testing.T) {
	w := scene(t, trio(0), "calm 1 12")
	w.alone(1, 2, 3)
	w.says("put 1 1 a x", "put 2 1 a y", "calm 1 3")
	is(t, w.terms(1), "1 1 1")
	w.leadsNow(2)
	w.says("put 3 2 a z", "calm 2 3")
	is(t, say(w.back(1), w.back(2), w.back(3)), "open open done")
	w.linked()
	w.says("calm 2 3")
	term := view(t, w.w, 2).Core.Term
	for id := range 3 {
		is(t, w.terms(id+1), say(1, term, term))
		is(t, replied(w.w.Get(id+1, "a")), "done z")
	}
	is(t, view(t, w.w, 1).Pending, 0)
	is(t, say(w.back(1), w.back(2), w.counts["back lost"]), "open open 2")
	w.end()
}

// What a client was told of is there behind any crashes, in every later term, whether it stands in a log or in a snapshot.
func TestP0_10_ThroughCrashes(t *testing.T) {
	for _, every := range []int{0, 1, 3} {
		for _, keep := range []int{0, 7, 9999} {
			w := scene(t, trio(every))
			want := map[string]string{}
			for i := range 9 {
				w.until(1+i%3, "somebody leads", func() bool { return w.w.Leader() > 0 })
				w.says(say("calm", 1+i%3, 2))
				leader, key, value := w.w.Leader(), string("abc"[i%3]), say(i)
				w.says(say("put", 1, leader, key, value))
				w.until(leader, "it is answered", func() bool { return w.back(1) == "done" })
				want[key] = value
				// At once: what isn't durable is gone.
				for id := range 3 {
					if i%4 == 3 || id+1 == leader {
						w.says(say("crash", id+1, keep), say("start", id+1, 0))
					}
				}
			}
			w.until(1, "somebody leads", func() bool { return w.w.Leader() > 0 })
			w.says("calm 1 2")
			for key, value := range want {
				is(t, replied(w.w.Get(w.w.Leader(), key)), "done "+value)
			}
			w.end()
		}
	}
}

// Whatever the order of the steps: behind a crash of all, as soon as a client was told of it, it is there.
func TestP0_10_InAnyOrder(t *testing.T) {
	for seed := range uint64(150) {
		r := rand.New(rand.NewPCG(seed, 10))
		w := scene(t, trio(int(seed%3)), "calm 1 11", "put 1 1 a x")
		for w.back(1) != "done" {
			if mails := len(w.w.Mail()); mails > 0 && r.IntN(3) == 0 {
				w.step(deliver(r.IntN(mails)))
			} else {
				w.step(pick(1+r.IntN(3), 1+r.IntN(9)))
			}
			if r.IntN(200) == 0 {
				w.step(tick(1, 0))
			}
		}
		for id := range 3 {
			w.says(say("crash", id+1, 0))
		}
		// The two that may know the least of it.
		w.says("start 2 0", "start 3 0")
		quick, _ := w.newest([]int{2, 3})
		w.until(quick, "somebody leads", func() bool { return w.w.Leader() > 0 })
		w.says(say("calm", quick, 2))
		is(t, replied(w.w.Get(w.w.Leader(), "a")), "done x")
		w.end()
	}
}

// A leader that is alone, and doesn't know that another one leads, answers no read.
func TestP0_11_NoOldReads(t *testing.T) {
	w := scene(t, trio(0), "calm 1 12", "put 1 1 a old", "calm 1 2")
	is(t, w.back(1), "done")
	w.alone(1, 2, 3)
	w.leadsNow(2)
	w.says("put 1 2 a new", "calm 2 3")
	is(t, w.back(1), "done")
	is(t, view(t, w.w, 1).Core.Role, api.Leader)
	is(t, replied(w.w.Get(1, "a")), "done old")
	w.says("get 2 1 a", "calm 2 5")
	is(t, w.back(2), "open")
	w.linked()
	w.says("calm 2 3")
	is(t, say(w.back(2), w.counts["back lead"]), "open 1")
	w.says("again 2 2", "calm 2 2")
	is(t, w.back(2), "done new")
	w.end()
}

// Answers to beats that were sent ahead of a read don't count for it.
func TestP0_11_LateAnswers(t *testing.T) {
	w := scene(t, trio(0), "calm 1 12", "put 1 1 a old", "calm 1 2")
	w.says("get 2 1 a", "pick 1 call", "pick 1 work", "pick 1 send", "pick 1 send")
	for _, id := range []int{2, 3} {
		w.brings(id)
		w.speaks(id)
	}
	w.says("give 2", "get 2 1 a", "pick 1 call")
	is(t, view(t, w.w, 1).Waiting, 2)
	w.brings(1)
	w.brings(1)
	w.says("pick 1 work", "pick 1 apply")
	is(t, view(t, w.w, 1).Waiting, 1)
	is(t, w.back(2), "open")
	w.says("calm 1 1")
	is(t, w.back(2), "done old")
	w.end()
}

// One that has just begun to lead doesn't know what is committed: it answers no read ahead of that.
func TestP0_11_NoEarlyReads(t *testing.T) {
	w := scene(t, trio(0), "calm 1 12", "put 1 1 a old", "calm 1 2", "put 1 1 a new")
	// Nodes 1 and 2 have it, and node 1 alone knows that it is committed.
	w.alone(1, 3)
	w.until(1, "it is answered", func() bool { return w.back(1) == "done" })
	is(t, view(t, w.w, 2).Core.Commit, 2)
	w.loses()
	w.says("crash 1 0")
	w.leadsNow(2)
	is(t, replied(w.w.Get(2, "a")), "done old")
	is(t, w.says("get 2 2 a", "pick 2 call"), "ok; ok, back 2 2 busy")
	w.says("calm 2 3", "again 2 2", "calm 2 1")
	is(t, w.back(2), "done new")
	w.end()
}

// What is called again is done once, and gets the reply that it got; whoever leads then, and whatever was done meanwhile.
func TestP0_12_CalledAgain(t *testing.T) {
	for _, x := range []struct{ call, meanwhile, reply, value string }{
		{"put 1 1 a x", "put 2 2 a y", "done", "done y"},
		{"delete 1 1 a", "put 2 2 a y", "done", "done y"},
		{"swap 1 1 a 0 x", "put 2 2 a 0", "done", "done 0"},
		{"swap 1 1 a 1 x", "put 2 2 a 1", "other 0", "done 1"},
		{"delete 1 1 b", "put 2 2 b y", "none", "done 0"},
		{"swap 1 1 b 0 x", "put 2 2 b 0", "none", "done 0"},
	} {
		for _, every := range []int{0, 1} {
			w := scene(t, trio(every), "calm 1 12", "put 3 1 a 0", "calm 1 2", x.call)
			w.until(1, "node 2 has it", func() bool { return w.terms(2) == w.terms(1) && len(w.acked) > 0 && w.acked[[2]int{2, 1}] == 3 })
			w.says("crash 1 0")
			w.leadsNow(2)
			w.says("calm 2 3", x.meanwhile, "calm 2 3")
			is(t, say(w.back(1), w.back(2)), "open done")
			w.says("again 1 2", "calm 2 3")
			is(t, say(w.back(1), replied(w.w.Get(2, "a"))), say(x.reply, x.value))
			// And once more, by one that leads behind all of that.
			w.says("start 1 0", "calm 2 5", "crash 2 0", "calm 3 150")
			is(t, w.w.Leader(), 3)
			is(t, replied(w.w.Get(3, "a")), x.value)
			w.end()
		}
	}
}

// A client that calls again and again has its command in the log again and again, and its effect once.
func TestP0_12_ManyTimes(t *testing.T) {
	w := scene(t, trio(0), "calm 1 12", "put 1 1 a x")
	for range 5 {
		w.says("pick 1 call", "again 1 1")
	}
	w.says("calm 1 2")
	_, _, l := w.w.Log(1)
	is(t, len(l), 7)
	for _, e := range l[1:] {
		c, _ := (codec.Commands{}).Get(e.Data)
		is(t, say(c.Client, c.Seq), "1 1")
	}
	is(t, w.back(1), "done")
	w.says("delete 1 1 a", "pick 1 call", "again 1 1", "calm 1 2")
	is(t, say(w.back(1), replied(w.w.Get(1, "a"))), "done none")
	w.end()
}

// What a node answers leans on what it has written: it answers nothing ahead of the sync, whatever it was sent.
func TestP0_14_NothingSentAheadOfTheSync(t *testing.T) {
	for _, x := range []struct {
		name  string
		kind  int
		begin func(w *watch)
	}{
		{"a vote", api.MVote, func(w *watch) { w.asks(1) }},
		{"entries", api.MApp, func(w *watch) {
			w.says("calm 1 12", "put 1 1 a x", "pick 1 call", "pick 1 work", "pick 1 send", "pick 1 send")
		}},
		{"a beat", api.MBeat, func(w *watch) {
			w.says("calm 1 12", "tick 1 0", "pick 1 tick", "pick 1 work", "pick 1 send", "pick 1 send")
		}},
		{"a snapshot", api.MSnap, func(w *watch) {
			w.says("calm 1 12", "crash 2 0", "put 1 1 a x", "calm 1 3", "put 1 1 b x", "calm 1 3", "start 2 0")
			w.until(1, "a snapshot is sent", func() bool { return w.mailOf(api.MSnap) >= 0 })
		}},
	} {
		w := scene(t, trio(1))
		x.begin(w)
		for at := 0; at < len(w.w.Mail()); {
			if m, _ := letter(w.w.Mail()[at].Data); m.Kind != x.kind || m.To != 2 {
				w.says(say("drop", at))
			} else {
				at++
			}
		}
		if len(w.w.Mail()) == 0 {
			t.Fatalf("%s isn't sent", x.name)
		}
		w.brings(2)
		w.silent(2)
		w.says("pick 2 work")
		w.silent(2)
		w.says("pick 2 write")
		w.silent(2)
		w.says("pick 2 sync", "pick 2 send", "crash 2 0", "start 2 0", "calm 1 3")
		w.end()
	}
}

// Where the disk fails amid a snapshot that came from the leader, and whatever is torn then, the node recovers, and goes on.
func TestP0_14_ASnapshotTorn(t *testing.T) {
	down := 0
	for n := 1; n <= 12; n++ {
		for _, keep := range []int{0, 9, 9999} {
			// Node 1 has an entry that nobody else has, of an earlier term than the snapshot's.
			w := scene(t, trio(2), "calm 1 12", "put 1 1 a x", "calm 1 1", "cut 1 2", "cut 1 3", "put 2 1 b lost", "calm 1 2", "crash 1 0")
			w.leadsNow(2)
			for i := range 6 {
				w.says(say("put", 1, 2, "a", i), "calm 2 2")
			}
			w.linked()
			w.says("start 1 0")
			w.until(2, "a snapshot is sent", func() bool { return w.mailOf(api.MSnap) >= 0 })
			w.says(say("arm", 1, n), "calm 2 2")
			if _, up := w.w.View(1); !up {
				down++
			}
			w.says(say("crash", 1, keep), "start 1 0", "crash 3 0")
			w.goesOn([]int{1, 2})
			is(t, replied(w.w.Get(1, "a")), "done 5")
			is(t, replied(w.w.Get(1, "b")), "none")
		}
	}
	if down < 18 {
		t.Errorf("the disk failed %d times alone", down)
	}
}

// Wherever it crashes, and whatever is torn, a node recovers; and goes on.
func TestP0_14_EachStep(t *testing.T) {
	steps := []string{"put 1 1 a x", "tick 2 80", "put 2 1 b y"}
	for range 3 {
		for id := range 3 {
			for _, s := range strings.Fields("notice notice work inbox inbox tick call work write write") {
				steps = append(steps, say("pick", id+1, s))
			}
		}
		for id := range 3 {
			for _, s := range strings.Fields("sync notice work write apply send send") {
				steps = append(steps, say("pick", id+1, s))
			}
		}
		steps = append(steps, slices.Repeat([]string{"deliver 0"}, 4)...)
	}
	counts := map[string]int{}
	for n := range steps {
		for i, keep := range []int{0, 1 + n%40, 9999} {
			w := scene(t, strings.Replace(trio((n+i)%2), "4096", "64", 1), "calm 1 11")
			w.counts = counts
			for _, s := range steps[:n] {
				a, _ := text.ParseAct(s)
				w.step(a)
			}
			for id := range 3 {
				w.says(say("crash", id+1, keep), say("start", id+1, 0))
			}
			w.says("calm 2 2")
			w.end()
		}
	}
	enough(t, counts, 1000, "recovered")
	enough(t, counts, 100, "recovered more")
}

// A node that was down for long is brought up to the others, by a snapshot; it may lead then.
func TestP0_15_FarBehind(t *testing.T) {
	for _, every := range []int{1, 4, 30} {
		w := scene(t, trio(every), "calm 1 12", "crash 3 0")
		for i := range 50 {
			w.do(put(1, 1, "a", say(i)))
			w.do(calm(1, 1))
		}
		is(t, replied(w.w.Get(2, "a")), "done 49")
		w.do(crash(1, 0))
		w.do(start(3, 0))
		w.goesOn([]int{2, 3})
		is(t, replied(w.w.Get(3, "a")), "done 49")
		w.do(start(1, 0))
		w.do(crash(2, 0))
		w.goesOn([]int{1, 3})
	}
}

// Logs that went apart far come together, whichever one is the longer.
func TestP0_15_FarApart(t *testing.T) {
	for _, lost := range []int{1, 15, 90} {
		for _, done := range []int{1, 15, 90} {
			p := scene(t, strings.Replace(trio(1000), "3 3", "3 16", 1), "calm 1 12", "cut 1 2", "cut 1 3").play
			for i := range lost {
				p.do(put(1, 1, "a", say("lost", i)))
				p.do(calm(1, 1))
				p.do(give(1))
			}
			p.do(calm(2, 150))
			is(t, p.w.Leader(), 2)
			for i := range done {
				p.do(put(2, 2, "a", say("done", i)))
				p.do(calm(2, 1))
			}
			p.do(link(1, 2))
			p.do(link(1, 3))
			p.goesOn([]int{1, 2, 3})
			for id := range 3 {
				is(t, replied(p.w.Get(id+1, "a")), say("done done", done-1))
			}
		}
	}
}

// A snapshot that is lost is sent again: without it the leader's term has nothing committed.
func TestP0_15_ALostSnapshot(t *testing.T) {
	w := scene(t, trio(2), "calm 1 12", "crash 3 0")
	for i := range 9 {
		w.says(say("put", 1, 1, "a", i), "calm 1 1")
	}
	w.says("crash 1 0", "start 3 0")
	for range 3 {
		w.until(2, "a snapshot is sent", func() bool { return w.mailOf(api.MSnap) >= 0 })
		w.loses()
	}
	is(t, say(w.w.Leader(), view(t, w.w, 2).Core.Commit), "2 10")
	w.goesOn([]int{2, 3})
	is(t, replied(w.w.Get(3, "a")), "done 8")
}

// Entries that are lost are sent again, also where the window is full of them.
func TestP0_15_LostEntries(t *testing.T) {
	for _, window := range []int{1, 4} {
		w := scene(t, fmt.Sprintf("world 3 3 10 1 1 %d 4 100 100 100 4096 12 8 8 8 8 12 0", window), "calm 1 12", "crash 3 0")
		for i := range 20 {
			w.says(say("put", 1, 1, "a", i), "calm 1 1")
		}
		w.says("crash 1 0", "start 3 0")
		w.until(2, "node 3 has some", func() bool { return len(w.terms(3)) > 6 })
		// What is on its way is lost, and all that comes of what was taken already.
		for range 20 {
			for id := 2; id <= 3; id++ {
				for kind := node.PNotice; kind <= node.PSend; kind++ {
					for w.step(pick(id, kind)).Did {
					}
				}
			}
			for _, x := range w.w.Mail() {
				at := slices.IndexFunc(w.w.Mail(), func(y net.Mail) bool { return y.Number == x.Number })
				if x.To == 3 {
					w.says(say("drop", at))
				} else {
					w.says(say("deliver", at))
				}
			}
		}
		is(t, say(w.w.Leader(), view(t, w.w, 2).Core.Commit), "2 21")
		w.goesOn([]int{2, 3})
		is(t, replied(w.w.Get(3, "a")), "done 19")
	}
}
