package core_test

import (
	"testing"

	"synod/api"
	"synod/core"
)

// some is node 2 of five, a follower of term 6 that has voted for nobody and knows no leader: its log is 3/2, 4/3, 5/5, 6/5;
// 4 is committed and applied.
func some(t *testing.T) kit {
	t.Helper()
	k := makeKit(t, opts(2, 5), api.State{Term: 6, Commit: 4}, snapOf(3, 2, "s"), of(4, 3, 5, 5)...)
	k.done()
	k.tick(2)
	k.status("follower t6 v0 of 0; 2/10; c4 a4 l6")
	return k
}

// leading is node 1 of so many, as the leader of term 1; all that it said is taken.
func leading(t *testing.T, o core.Opts) kit {
	t.Helper()
	k := makeKit(t, o, api.State{}, api.Snap{})
	k.tick(o.Election)
	for id := 2; id <= o.Nodes/2+1; id++ {
		k.step(voteYes(id, 1, 1))
	}
	k.done()
	return k
}

// serving is such a leader whose first entry is committed, and which all of the others have.
func serving(t *testing.T, o core.Opts) kit {
	t.Helper()
	k := leading(t, o)
	for id := 2; id <= o.Nodes; id++ {
		k.step(appYes(id, 1, 1, 1))
	}
	k.done()
	return k
}

// eachKind is a message of each kind that a node of an earlier term could take.
func eachKind(from, to, term int) []api.Message {
	return []api.Message{vote(from, to, term, 9, term-1), voteYes(from, to, term), app(from, to, term, 1, 1, 0, empty(term, 2)), appYes(from, to, term, 1),
		beat(from, to, term, 0, 0), beatAns(from, to, term, 0), snapMsg(from, to, term, snapOf(9, 1, ""))}
}

// spoilt are messages of a later term, each with something in it that may not be; nodes is how many there are.
func spoilt(from, to, term, nodes int) []api.Message {
	var wrong []api.Message
	for _, m := range eachKind(from, to, term) {
		add := func(change func(m *api.Message)) {
			x := m
			change(&x)
			wrong = append(wrong, x)
		}
		add(func(m *api.Message) { m.To = from })
		add(func(m *api.Message) { m.From = to })
		for id := range 9 {
			if id != to {
				add(func(m *api.Message) { m.To = id })
			}
			if id == to || id > nodes {
				add(func(m *api.Message) { m.From = id })
			}
		}
		for _, n := range append(far(), 0) {
			add(func(m *api.Message) { m.From = n })
			add(func(m *api.Message) { m.To = n })
			add(func(m *api.Message) { m.Term = n })
			add(func(m *api.Message) { m.Kind = n })
		}
		for _, n := range far() {
			add(func(m *api.Message) { m.Index = n })
			add(func(m *api.Message) { m.Ctx = n })
			add(func(m *api.Message) { m.Commit = n })
		}
		add(func(m *api.Message) { m.Kind = 8 })
		// No kind uses both.
		add(func(m *api.Message) { m.Hint, m.Ctx = 1, 1 })
	}
	return append(wrong, vote(from, to, term, 0, 1), vote(from, to, term, 1, 0), vote(from, to, term, 9, term),
		app(from, to, term, 0, 0, 0, empty(1, 2)), app(from, to, term, 1, term+1, 0), app(from, to, term, 0, 0, 0, many(65, 1, 1)...),
		snapMsg(from, to, term, api.Snap{}), snapMsg(from, to, term, snapOf(9, term+1, "")), api.Message{})
}

func TestP10_3_WrongMessages(t *testing.T) {
	for _, x := range []struct {
		k     kit
		wrong []api.Message
	}{
		{some(t), spoilt(1, 2, 9, 5)},
		{leading(t, opts(1, 2)), spoilt(2, 1, 9, 2)},
	} {
		x.k.same(func() {
			for _, m := range x.wrong {
				if e := x.k.c.Step(m); e != api.ErrMessage {
					t.Errorf("Step of %+v: %d", m, e)
				}
			}
		})
		x.k.work("")
	}
	for _, m := range eachKind(5, 2, 9) {
		some(t).step(m)
	}
}

// nothingMore are messages by which one that doesn't lead steps down, and does nothing else.
func nothingMore(from, to, term int) []api.Message {
	return []api.Message{voteYes(from, to, term), voteNo(from, to, term), appYes(from, to, term, 0), appNo(from, to, term, 1, 0), beatAns(from, to, term, 3)}
}

func TestP10_3_StepsDown(t *testing.T) {
	for _, m := range nothingMore(1, 2, 8) {
		k := some(t)
		k.step(m)
		k.status("follower t8 v0 of 0; 2/10; c4 a4 l6")
		k.work("#1; state 8 0 4")
		// Its vote goes, and whom it took for the leader; its elapsed stays.
		k = some(t)
		k.step(vote(3, 2, 6, 6, 5), beat(3, 2, 6, 0, 0))
		k.tick(1)
		k.done()
		k.status("follower t6 v3 of 3; 1/10; c4 a4 l6")
		k.step(m)
		k.status("follower t8 v0 of 0; 1/10; c4 a4 l6")
		k.work("#2; state 8 0 4")
		// A candidate is none any more.
		k = some(t)
		k.tick(8)
		k.tick(3)
		k.step(voteYes(5, 2, 7))
		k.done()
		k.status("candidate t7 v2 of 0; 3/10; c4 a4 l6")
		k.step(m)
		k.status("follower t8 v0 of 0; 3/10; c4 a4 l6")
		k.work("#2; state 8 0 4")
		k.same(func() { k.step(voteYes(3, 2, 8), voteYes(4, 2, 8)) })
	}
	k := some(t)
	k.step(beatAns(1, 2, top, 0))
	k.status("follower t4611686018427387904 v0 of 0; 2/10; c4 a4 l6")
}

func TestP10_3_LeaderStepsDown(t *testing.T) {
	for _, m := range nothingMore(2, 1, 2) {
		k := blank(t, 1, 3)
		k.tick(13)
		k.step(voteYes(3, 1, 1), appYes(3, 1, 1, 1))
		k.done()
		k.status("leader t1 v1 of 1; 3/10; c1 a1 l1")
		is(t, say(k.c.Read(7), k.c.Read(-3), k.c.Read(7)), "0 0 0")
		k.step(beatAns(2, 1, 1, 1))
		k.work("now Beat 1>2 t1 x1, Beat 1>3 t1 c1 x1, Beat 1>2 t1 x2, Beat 1>3 t1 c1 x2, Beat 1>2 t1 x3, Beat 1>3 t1 c1 x3, App 1>2 t1 c1 [1/1]; reads 7@1")
		k.step(m)
		k.status("follower t2 v0 of 0; 0/10; c1 a1 l1")
		k.work("#3; state 2 0 1; dropped [-3 7]")
		is(t, say(k.c.Read(1), k.c.Match(3)), say(api.ErrLead, 0))
		// They are dropped once, and are ready no more.
		k.step(beatAns(2, 1, 2, 3), beatAns(3, 1, 2, 3))
		k.work("")
		k.step(beatAns(2, 1, 4, 3))
		k.work("#4; state 4 0 1")
	}
}

// What is ready stays so, and what was said before it stepped down has the earlier term.
func TestP10_3_SaidStays(t *testing.T) {
	k := serving(t, opts(1, 3))
	is(t, say(k.c.Read(4), k.c.Read(5)), "0 0")
	k.step(beatAns(2, 1, 1, 1))
	k.step(app(3, 1, 2, 1, 1, 1, empty(2, 2)))
	k.work("#3; state 2 0 1; write 2/2; now Beat 1>2 t1 c1 x1, Beat 1>3 t1 c1 x1, Beat 1>2 t1 c1 x2, Beat 1>3 t1 c1 x2; after AppAns 1>3 t2 i2; reads 4@1; dropped [5]")
}

func TestP10_3_EarlierTerm(t *testing.T) {
	for _, term := range []int{2, 5} {
		k := some(t)
		k.same(func() {
			k.step(app(1, 2, term, 6, term, 9, empty(term, 7)), beat(3, 2, term, 6, 8), snapMsg(4, 2, term, snapOf(9, 1, "x")), vote(5, 2, term, top, term-1))
		})
		k.work("#1; after AppAns 2>1 t6 no, AppAns 2>3 t6 no, AppAns 2>4 t6 no, VoteAns 2>5 t6 no")
		k.same(func() {
			k.step(voteYes(1, 2, term), voteNo(1, 2, term), appYes(1, 2, term, 3), appNo(1, 2, term, 3, 2), beatAns(1, 2, term, 1))
		})
		k.work("")
	}
	// A candidate and a leader answer so too, and count nothing of it.
	k := some(t)
	k.tick(8)
	k.done()
	k.same(func() {
		k.step(voteYes(1, 2, 6), voteYes(3, 2, 6), voteNo(1, 2, 6), beat(3, 2, 6, 6, 8), app(1, 2, 6, 6, 5, 6), vote(4, 2, 6, 9, 5))
	})
	k.work("#2; after AppAns 2>3 t7 no, AppAns 2>1 t7 no, VoteAns 2>4 t7 no")
	k.step(voteYes(1, 2, 7), voteYes(3, 2, 7))
	k.done()
	k.status("leader t7 v2 of 2; 0/10; c4 a4 l7")
	k.same(func() {
		k.step(appYes(1, 2, 6, 7), appYes(3, 2, 6, 7), beatAns(1, 2, 6, 7), appNo(1, 2, 6, 6, 0), snapMsg(1, 2, 6, snapOf(9, 5, "x")), beat(3, 2, 6, 7, 8))
	})
	k.work("#4; after AppAns 2>1 t7 no, AppAns 2>3 t7 no")
}

func TestP10_3_Vote(t *testing.T) {
	for _, x := range []struct {
		index, logTerm int
		given          bool
	}{
		{6, 5, true}, {7, 5, true}, {top, 5, true}, {1, 6, true}, {5, 5, false}, {1, 5, false}, {9, 4, false}, {6, 3, false}, {0, 0, false},
	} {
		k := some(t)
		k.tick(1)
		k.step(vote(3, 2, 7, x.index, x.logTerm))
		if x.given {
			k.status("follower t7 v3 of 0; 0/10; c4 a4 l6")
			k.work("#1; state 7 3 4; after VoteAns 2>3 t7")
		} else {
			k.status("follower t7 v0 of 0; 3/10; c4 a4 l6")
			k.work("#1; state 7 0 4; after VoteAns 2>3 t7 no")
		}
	}
}

func TestP10_3_VoteOnce(t *testing.T) {
	k := some(t)
	k.step(vote(3, 2, 6, 6, 5))
	k.work("#1; state 6 3 4; after VoteAns 2>3 t6")
	k.tick(4)
	k.step(vote(4, 2, 6, 9, 5))
	k.work("#2; after VoteAns 2>4 t6 no")
	k.status("follower t6 v3 of 0; 4/10; c4 a4 l6")
	// The same one gets it again, if its log is no older.
	k.step(vote(3, 2, 6, 6, 5))
	k.work("#3; after VoteAns 2>3 t6")
	k.status("follower t6 v3 of 0; 0/10; c4 a4 l6")
	k.tick(4)
	k.step(vote(3, 2, 6, 5, 5))
	k.work("#4; after VoteAns 2>3 t6 no")
	k.status("follower t6 v3 of 0; 4/10; c4 a4 l6")
	// In the next term it is free again.
	k.step(vote(4, 2, 7, 9, 5))
	k.work("#5; state 7 4 4; after VoteAns 2>4 t7")
	// A vote that was told to New counts.
	k = makeKit(t, opts(2, 5), api.State{Term: 5, Vote: 1}, api.Snap{})
	k.step(vote(3, 2, 5, 0, 0), vote(1, 2, 5, 0, 0))
	k.work("#1; after VoteAns 2>3 t5 no, VoteAns 2>1 t5")
	// Whom it takes for the leader doesn't matter.
	k = some(t)
	k.step(beat(3, 2, 6, 0, 0), vote(4, 2, 6, 6, 5))
	k.status("follower t6 v4 of 3; 0/10; c4 a4 l6")
}

// A candidate and a leader have voted for themselves.
func TestP10_3_VoteOfOthers(t *testing.T) {
	k := blank(t, 1, 3)
	k.tick(12)
	k.done()
	k.same(func() { k.step(vote(2, 1, 1, 0, 0)) })
	k.work("#2; after VoteAns 1>2 t1 no")
	k.step(voteYes(3, 1, 1))
	k.done()
	k.same(func() { k.step(vote(2, 1, 1, 0, 0)) })
	k.work("#4; after VoteAns 1>2 t1 no")
}

func TestP10_3_Votes(t *testing.T) {
	for nodes := 2; nodes <= 7; nodes++ {
		quorum := nodes/2 + 1
		k := blank(t, 1, nodes)
		k.tick(12)
		for id := 2; id <= quorum; id++ {
			k.status("candidate t1 v1 of 0; 2/10; c0 a0 l0")
			k.step(voteYes(id, 1, 1), voteYes(id, 1, 1), voteNo(id, 1, 1))
		}
		k.status("leader t1 v1 of 1; 2/10; c0 a0 l1")
		// It is lost as soon as no quorum can be any more.
		k = blank(t, 1, nodes)
		k.tick(12)
		for id := 2; id <= nodes-quorum+2; id++ {
			k.status("candidate t1 v1 of 0; 2/10; c0 a0 l0")
			k.step(voteNo(id, 1, 1), voteNo(id, 1, 1), voteYes(id, 1, 1))
		}
		k.status("follower t1 v1 of 0; 2/10; c0 a0 l0")
		for id := 2; id <= nodes; id++ {
			k.step(voteYes(id, 1, 1))
		}
		k.status("follower t1 v1 of 0; 2/10; c0 a0 l0")
		// It stands again when its time has come.
		k.tick(8)
		k.status("candidate t2 v1 of 0; 0/10; c0 a0 l0")
	}
	// One that is no candidate counts nothing.
	k := some(t)
	k.same(func() { k.step(voteYes(1, 2, 6), voteYes(3, 2, 6), voteYes(4, 2, 6), voteNo(1, 2, 6)) })
	k.work("")
}

// A leader's messages: it is followed, and elapsed begins anew, whatever the message does then.
func TestP10_3_Follows(t *testing.T) {
	for _, m := range []api.Message{
		app(3, 2, 6, 6, 5, 0), app(3, 2, 6, 9, 5, 0), app(3, 2, 6, 0, 0, 0), beat(3, 2, 6, 0, 0),
		snapMsg(3, 2, 6, snapOf(4, 3, "x")), snapMsg(3, 2, 6, snapOf(1, 1, "x")),
	} {
		k := some(t)
		k.step(m)
		k.status("follower t6 v0 of 3; 0/10; c4 a4 l6")
		// Another one of a later term is followed then.
		m.From, m.Term = 4, 8
		k.tick(3)
		k.step(m)
		k.status("follower t8 v0 of 4; 0/10; c4 a4 l6")
		// A candidate follows one of its own term; its votes are forgotten.
		k = some(t)
		k.tick(8)
		k.tick(3)
		m.Term = 7
		k.step(voteYes(1, 2, 7), m)
		k.status("follower t7 v2 of 4; 0/10; c4 a4 l6")
		k.step(voteYes(3, 2, 7), voteYes(5, 2, 7))
		k.status("follower t7 v2 of 4; 0/10; c4 a4 l6")
	}
	// A leader does nothing of one of its own term.
	k := leading(t, opts(1, 3))
	k.tick(1)
	k.done()
	k.same(func() {
		k.step(app(2, 1, 1, 1, 1, 1, empty(1, 2)), beat(2, 1, 1, 1, 3), snapMsg(2, 1, 1, snapOf(9, 1, "x")), app(2, 1, 1, 0, 0, 0))
	})
	k.work("")
}

func TestP10_3_App(t *testing.T) {
	for _, x := range []struct {
		m    api.Message
		work string
		log  string
	}{
		// Behind the last one.
		{app(1, 2, 6, 6, 5, 0, command(6, 7, "x")), "#1; write 7/6=x; after AppAns 2>1 t6 i7", "4/3 5/5 6/5 7/6=x"},
		{app(1, 2, 6, 6, 5, 5), "#1; state 6 0 5; after AppAns 2>1 t6 i6; apply 5/5", "4/3 5/5 6/5"},
		{app(1, 2, 6, 6, 5, 9, of(7, 5, 6)...), "#1; state 6 0 8; write 7/5 8/6; after AppAns 2>1 t6 i8; apply 5/5 6/5", "4/3 5/5 6/5 7/5 8/6"},
		// What is there stays, and is not written again.
		{app(1, 2, 6, 4, 3, 9, empty(5, 5)), "#1; state 6 0 5; after AppAns 2>1 t6 i5; apply 5/5", "4/3 5/5 6/5"},
		{app(1, 2, 6, 5, 5, 9), "#1; state 6 0 5; after AppAns 2>1 t6 i5; apply 5/5", "4/3 5/5 6/5"},
		// Others go.
		{app(1, 2, 6, 4, 3, 4, of(5, 4, 4)...), "#1; write 5/4 6/4; after AppAns 2>1 t6 i6", "4/3 5/4 6/4"},
		{app(1, 2, 6, 5, 5, 4, of(6, 6)...), "#1; write 6/6; after AppAns 2>1 t6 i6", "4/3 5/5 6/6"},
		{app(1, 2, 6, 4, 3, 5, empty(4, 5)), "#1; state 6 0 5; write 5/4; after AppAns 2>1 t6 i5", "4/3 5/4"},
		// Below committed nothing is looked at.
		{app(1, 2, 6, 3, 2, 9, of(4, 3, 5, 5, 5)...), "#1; after AppAns 2>1 t6 i4", "4/3 5/5 6/5"},
		{app(1, 2, 6, 3, 1, 9), "#1; after AppAns 2>1 t6 i4", "4/3 5/5 6/5"},
		{app(1, 2, 6, 0, 0, 9), "#1; after AppAns 2>1 t6 i4", "4/3 5/5 6/5"},
		{app(1, 2, 6, 2, 1, 9), "#1; after AppAns 2>1 t6 i4", "4/3 5/5 6/5"},
		// It hasn't that index, or not with that term.
		{app(1, 2, 6, 7, 5, 9), "#1; after AppAns 2>1 t6 i7 h6 no", "4/3 5/5 6/5"},
		{app(1, 2, 6, 7, 4, 9, empty(5, 8)), "#1; after AppAns 2>1 t6 i7 h4 no", "4/3 5/5 6/5"},
		{app(1, 2, 6, 6, 4, 9, empty(5, 7)), "#1; after AppAns 2>1 t6 i6 h4 no", "4/3 5/5 6/5"},
		{app(1, 2, 6, 5, 1, 9), "#1; after AppAns 2>1 t6 i5 h3 no", "4/3 5/5 6/5"},
		{app(1, 2, 6, 4, 4, 9), "#1; after AppAns 2>1 t6 i4 h4 no", "4/3 5/5 6/5"},
		{app(1, 2, 6, top, 6, top), "#1; after AppAns 2>1 t6 i4611686018427387904 h6 no", "4/3 5/5 6/5"},
	} {
		k := some(t)
		k.step(x.m)
		k.work(x.work)
		k.log("3 2 ; " + x.log)
	}
}

// No room: it is refused, and the log stays.
func TestP10_3_AppToAFullLog(t *testing.T) {
	k := makeKit(t, opts(2, 3), api.State{Term: 5}, api.Snap{}, many(api.MaxLog-1, 5, 1)...)
	k.step(app(1, 2, 5, api.MaxLog-1, 5, 0, of(api.MaxLog, 5, 5)...))
	k.work("#1; after AppAns 2>1 t5 i9999 h9999 no")
	k.step(app(1, 2, 5, api.MaxLog-1, 5, 0, of(api.MaxLog, 5)...))
	k.work("#2; write 10000/5; after AppAns 2>1 t5 i10000")
}

func TestP10_3_Beat(t *testing.T) {
	for _, x := range []struct {
		commit, ctx int
		work        string
	}{
		{0, 0, "#1; after BeatAns 2>1 t6"},
		{4, 2, "#1; after BeatAns 2>1 t6 x2"},
		{5, 3, "#1; state 6 0 5; after BeatAns 2>1 t6 x3; apply 5/5"},
		{6, 4, "#1; state 6 0 6; after BeatAns 2>1 t6 x4; apply 5/5 6/5"},
		{7, 5, "#1; state 6 0 6; after BeatAns 2>1 t6 x5; apply 5/5 6/5"},
		{top, top, "#1; state 6 0 6; after BeatAns 2>1 t6 x4611686018427387904; apply 5/5 6/5"},
	} {
		k := some(t)
		k.step(beat(1, 2, 6, x.commit, x.ctx))
		k.work(x.work)
	}
}

func TestP10_3_Snap(t *testing.T) {
	for _, x := range []struct {
		snap api.Snap
		work string
		log  string
	}{
		// It is committed here already.
		{snapOf(4, 3, "x"), "#1; after AppAns 2>1 t6 i4", "3 2 ; 4/3 5/5 6/5"},
		{snapOf(4, 4, "x"), "#1; after AppAns 2>1 t6 i4", "3 2 ; 4/3 5/5 6/5"},
		{snapOf(1, 1, "x"), "#1; after AppAns 2>1 t6 i4", "3 2 ; 4/3 5/5 6/5"},
		// The log has it.
		{snapOf(5, 5, "x"), "#1; state 6 0 5; after AppAns 2>1 t6 i5; apply 5/5", "3 2 ; 4/3 5/5 6/5"},
		{snapOf(6, 5, "x"), "#1; state 6 0 6; after AppAns 2>1 t6 i6; apply 5/5 6/5", "3 2 ; 4/3 5/5 6/5"},
		// It begins anew.
		{snapOf(5, 4, "x"), "#1; state 6 0 5; snap 5/4=x; after AppAns 2>1 t6 i5", "5 4 ;"},
		{snapOf(7, 5, "xyz"), "#1; state 6 0 7; snap 7/5=xyz; after AppAns 2>1 t6 i7", "7 5 ;"},
		{snapOf(top, 6, ""), "#1; state 6 0 4611686018427387904; snap 4611686018427387904/6=; after AppAns 2>1 t6 i4611686018427387904", "4611686018427387904 6 ;"},
	} {
		k := some(t)
		k.step(snapMsg(1, 2, 6, x.snap))
		k.work(x.work)
		k.work("")
		k.log(x.log)
	}
}

// The one that was not handed yet is in the next work; one that comes behind it is in its place.
func TestP10_3_SnapInThePlaceOfAnother(t *testing.T) {
	k := some(t)
	k.step(snapMsg(1, 2, 6, snapOf(9, 6, "a")), app(1, 2, 6, 9, 6, 10, of(10, 6, 6)...), snapMsg(1, 2, 6, snapOf(12, 6, "b")), app(1, 2, 6, 12, 6, 0, of(13, 6)...))
	k.work("#1; state 6 0 12; snap 12/6=b; write 13/6; after AppAns 2>1 t6 i9, AppAns 2>1 t6 i11, AppAns 2>1 t6 i12, AppAns 2>1 t6 i13")
	k.status("follower t6 v0 of 1; 0/10; c12 a12 l13")
	k.step(snapMsg(1, 2, 6, snapOf(20, 6, "c")))
	k.work("#2; state 6 0 20; snap 20/6=c; after AppAns 2>1 t6 i20")
	k.work("")
	// One that restores nothing leaves it in its place.
	k.step(snapMsg(1, 2, 6, snapOf(25, 6, "d")), snapMsg(1, 2, 6, snapOf(24, 6, "e")), app(1, 2, 6, 25, 6, 0, of(26, 6)...), snapMsg(1, 2, 6, snapOf(26, 6, "f")))
	k.work("#3; state 6 0 26; snap 25/6=d; write 26/6; after AppAns 2>1 t6 i25, AppAns 2>1 t6 i25, AppAns 2>1 t6 i26, AppAns 2>1 t6 i26")
}

// What was restored is the newest snapshot: as a leader it sends that, and takes none that is no newer.
func TestP10_3_SnapIsTheNewest(t *testing.T) {
	k := makeKit(t, opts(2, 2), api.State{Term: 6}, snapOf(3, 2, "s"))
	k.step(snapMsg(1, 2, 6, snapOf(9, 6, "new")))
	is(t, say(k.c.Compact(snapOf(9, 6, "x"), 0), k.c.Compact(snapOf(4, 6, "x"), 0)), say(api.ErrRange, api.ErrRange))
	k.tick(10)
	k.step(voteYes(1, 2, 7))
	k.done()
	k.step(appNo(1, 2, 7, 9, 3))
	k.work("now Snap 2>1 t7 {9/6=new}")
}
