package track_test

import (
	"testing"

	"synod/api"
	"synod/track"
)

// made is a progress.
func made(t *testing.T, next, room int) *track.Progress {
	t.Helper()
	p := track.NewProgress(next, room)
	if p == nil {
		t.Fatalf("NewProgress(%d, %d) is nil", next, room)
	}
	return p
}

// replicating is one in Replicate that has all up to match, with messages up to these indices on their way.
func replicating(t *testing.T, match, room int, sent ...int) *track.Progress {
	t.Helper()
	p := made(t, match+1, room)
	p.Acked(match)
	for _, last := range sent {
		p.Sent(last)
	}
	return p
}

// probing is one in Probe, by a rejection, that has all up to match; paused, if so.
func probing(t *testing.T, match, room int, paused bool) *track.Progress {
	t.Helper()
	p := replicating(t, match, room)
	p.Rejected(match+1, 0)
	if paused {
		p.Sent(0)
	}
	return p
}

// installing is one in Snapshot that has all up to match.
func installing(t *testing.T, match, room, snap int) *track.Progress {
	t.Helper()
	p := probing(t, match, room, false)
	p.Snap(snap)
	return p
}

// whole is all that a progress tells, and its window's numbers.
func whole(p *track.Progress) string {
	return say([]string{"Probe", "Replicate", "Snapshot"}[p.State()], p.Match(), p.Next(), p.May(), p.Items())
}

// look holds all that it tells against a text.
func look(t *testing.T, p *track.Progress, want string) {
	t.Helper()
	if have := whole(p); have != want {
		t.Errorf("have %s; want %s", have, want)
	}
}

func TestP9_3_Example(t *testing.T) {
	p := made(t, 8, 2)
	is(t, p.May(), true)
	p.Sent(9)
	is(t, say(p.May(), p.Next(), p.Rejected(6, 3), p.Rejected(7, 3), p.Next(), p.May()), "false 8 false true 4 true")
	p.Sent(3)
	is(t, say(p.Acked(3), p.State(), p.Next()), say(true, track.Replicate, 4))
	p.Sent(5)
	p.Sent(6)
	is(t, say(p.May(), p.Next()), "false 7")
	p.Beat()
	is(t, say(p.May(), p.Acked(5), p.Match(), p.Rejected(5, 0), p.Rejected(6, 1), p.State(), p.Next()), say(true, true, 5, false, true, track.Probe, 6))
	p.Snap(20)
	is(t, say(p.May(), p.Acked(10), p.State()), say(false, true, track.Snapshot))
	is(t, say(p.Acked(20), p.State(), p.Next()), say(true, track.Probe, 21))
}

func TestP9_3_NewProgress(t *testing.T) {
	for _, room := range []int{1, 2, 63, api.MaxQueue} {
		for next, want := range map[int]int{-5: 1, -1: 1, 0: 1, 1: 1, 2: 2, 77: 77, top: top} {
			look(t, made(t, next, room), say("Probe", 0, want, "true []"))
		}
		for _, next := range far() {
			look(t, made(t, next, room), say("Probe", 0, max(1, next), "true []"))
		}
	}
}

func TestP9_3_WrongRoom(t *testing.T) {
	for _, room := range append(far(), 0, api.MaxQueue+1, api.MaxQueue+2, 1000) {
		for _, next := range []int{-1, 0, 1, 9, top} {
			if track.NewProgress(next, room) != nil {
				t.Errorf("NewProgress(%d, %d) is not nil", next, room)
			}
		}
	}
}

// The window holds as many messages as its room.
func TestP9_3_EachRoom(t *testing.T) {
	for room := 1; room <= api.MaxQueue; room++ {
		p := replicating(t, 0, room)
		for i := range room {
			is(t, p.May(), true)
			p.Sent(2 * (i + 1))
			is(t, p.Next(), 2*i+3)
		}
		is(t, p.May(), false)
		p.Sent(1000)
		is(t, say(p.May(), p.Next(), len(p.Items())), say(false, 2*room+1, room))
	}
}

// Asking changes nothing.
func TestP9_3_Asked(t *testing.T) {
	for _, p := range []*track.Progress{
		made(t, 5, 2), probing(t, 4, 2, true), replicating(t, 4, 2), replicating(t, 4, 2, 5, 6), installing(t, 4, 2, 9),
	} {
		before := whole(p)
		for range 5 {
			look(t, p, before)
		}
	}
}

func TestP9_4_SentInProbe(t *testing.T) {
	// With entries, with one, with none, with none by far: each is a message.
	for _, last := range []int{9, 5, 4, 3, 1, 0, top} {
		p := made(t, 5, 2)
		p.Sent(last)
		look(t, p, "Probe 0 5 false []")
		p.Sent(last)
		look(t, p, "Probe 0 5 false []")
	}
}

func TestP9_4_SentInReplicate(t *testing.T) {
	for _, x := range []struct {
		last int
		want string
	}{
		{0, "Replicate 4 5 true []"},
		{3, "Replicate 4 5 true []"},
		{4, "Replicate 4 5 true []"},
		{5, "Replicate 4 6 true [5]"},
		{6, "Replicate 4 7 true [6]"},
		{68, "Replicate 4 69 true [68]"},
		{top, say("Replicate 4", top+1, "true", []int{top})},
	} {
		p := replicating(t, 4, 2)
		p.Sent(x.last)
		look(t, p, x.want)
	}
	p := replicating(t, 4, 3, 7)
	for _, last := range []int{7, 6, 5, 4, 0} {
		p.Sent(last)
		look(t, p, "Replicate 4 8 true [7]")
	}
	p.Sent(8)
	look(t, p, "Replicate 4 9 true [7 8]")
	p.Sent(8)
	p.Sent(20)
	look(t, p, "Replicate 4 21 false [7 8 20]")
	for _, last := range []int{21, 30, top, 20, 8, 0} {
		p.Sent(last)
		look(t, p, "Replicate 4 21 false [7 8 20]")
	}
}

func TestP9_4_SentInSnapshot(t *testing.T) {
	for _, last := range []int{0, 4, 5, 9, 10, top} {
		p := installing(t, 4, 2, 9)
		p.Sent(last)
		look(t, p, "Snapshot 4 5 false []")
	}
	// It isn't paused by that either.
	p := installing(t, 4, 2, 9)
	p.Sent(7)
	p.Acked(9)
	look(t, p, "Probe 9 10 true []")
}
