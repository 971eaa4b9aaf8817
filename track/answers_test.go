package track_test

import (
	"testing"

	"synod/track"
)

// An answer to a progress, what is answered to it, and what the progress is then.
type answer struct {
	index, hint int
	ok          bool
	want        string
}

// acks holds what Acked of each index does to a progress that is made anew for each.
func acks(t *testing.T, anew func() *track.Progress, l ...answer) {
	t.Helper()
	for _, x := range l {
		p := anew()
		if ok := p.Acked(x.index); ok != x.ok || whole(p) != x.want {
			t.Errorf("Acked(%d) is %t, %s; want %t, %s", x.index, ok, whole(p), x.ok, x.want)
		}
	}
}

// rejects holds the same of Rejected.
func rejects(t *testing.T, anew func() *track.Progress, l ...answer) {
	t.Helper()
	for _, x := range l {
		p := anew()
		if ok := p.Rejected(x.index, x.hint); ok != x.ok || whole(p) != x.want {
			t.Errorf("Rejected(%d, %d) is %t, %s; want %t, %s", x.index, x.hint, ok, whole(p), x.ok, x.want)
		}
	}
}

func TestP9_5_AckedInProbe(t *testing.T) {
	// A new one has all up to 0: Next goes back to the one behind what the node has.
	acks(t, func() *track.Progress { return made(t, 8, 2) },
		answer{0, 0, false, "Replicate 0 1 true []"},
		answer{1, 0, true, "Replicate 1 2 true []"},
		answer{6, 0, true, "Replicate 6 7 true []"},
		answer{7, 0, true, "Replicate 7 8 true []"},
		answer{8, 0, true, "Replicate 8 9 true []"},
		answer{99, 0, true, "Replicate 99 100 true []"},
		answer{top, 0, true, say("Replicate", top, top+1, "true []")})
	for _, paused := range []bool{false, true} {
		acks(t, func() *track.Progress { return probing(t, 5, 2, paused) },
			answer{0, 0, false, "Probe 5 6 true []"},
			answer{4, 0, false, "Probe 5 6 true []"},
			answer{5, 0, false, "Replicate 5 6 true []"},
			answer{6, 0, true, "Replicate 6 7 true []"},
			answer{9, 0, true, "Replicate 9 10 true []"})
	}
}

// A message that was sent while it probed isn't in the window.
func TestP9_5_WindowIsEmptyBehindProbe(t *testing.T) {
	p := made(t, 8, 2)
	p.Sent(9)
	p.Acked(9)
	look(t, p, "Replicate 9 10 true []")
	p.Sent(10)
	look(t, p, "Replicate 9 11 true [10]")
	p.Sent(12)
	look(t, p, "Replicate 9 13 false [10 12]")
}

func TestP9_5_AckedInReplicate(t *testing.T) {
	acks(t, func() *track.Progress { return replicating(t, 4, 3, 6, 7, 11) },
		answer{0, 0, false, "Replicate 4 12 false [6 7 11]"},
		answer{4, 0, false, "Replicate 4 12 false [6 7 11]"},
		answer{5, 0, true, "Replicate 5 12 false [6 7 11]"},
		answer{6, 0, true, "Replicate 6 12 true [7 11]"},
		answer{7, 0, true, "Replicate 7 12 true [11]"},
		answer{10, 0, true, "Replicate 10 12 true [11]"},
		answer{11, 0, true, "Replicate 11 12 true []"},
		answer{12, 0, true, "Replicate 12 13 true []"},
		answer{50, 0, true, "Replicate 50 51 true []"})
	// Answers may come out of order, and more than once.
	p := replicating(t, 4, 3, 6, 7, 11)
	is(t, say(p.Acked(7), p.Acked(6), p.Acked(7), p.Acked(11), p.Acked(11)), "true false false true false")
	look(t, p, "Replicate 11 12 true []")
}

func TestP9_5_AckedInSnapshot(t *testing.T) {
	acks(t, func() *track.Progress { return installing(t, 5, 2, 20) },
		answer{0, 0, false, "Snapshot 5 6 false []"},
		answer{5, 0, false, "Snapshot 5 6 false []"},
		answer{6, 0, true, "Snapshot 6 7 false []"},
		answer{19, 0, true, "Snapshot 19 20 false []"},
		answer{20, 0, true, "Probe 20 21 true []"},
		answer{21, 0, true, "Probe 21 22 true []"},
		answer{90, 0, true, "Probe 90 91 true []"})
	// Next was further ahead, and comes back.
	acks(t, func() *track.Progress {
		p := made(t, 40, 2)
		p.Snap(20)
		return p
	},
		answer{0, 0, false, "Snapshot 0 40 false []"},
		answer{19, 0, true, "Snapshot 19 40 false []"},
		answer{20, 0, true, "Probe 20 21 true []"},
		answer{39, 0, true, "Probe 39 40 true []"},
		answer{40, 0, true, "Probe 40 41 true []"})
}

// It is Match that counts, not what the answer speaks of: the node may have had all of the snapshot already.
func TestP9_5_SnapshotThatTheNodeHas(t *testing.T) {
	for _, snap := range []int{5, 4, 0} {
		acks(t, func() *track.Progress { return installing(t, 5, 2, snap) },
			answer{0, 0, false, "Probe 5 6 true []"},
			answer{4, 0, false, "Probe 5 6 true []"},
			answer{5, 0, false, "Probe 5 6 true []"},
			answer{8, 0, true, "Probe 8 9 true []"})
	}
}

func TestP9_6_RejectedInReplicate(t *testing.T) {
	for _, hint := range []int{0, 3, 4, 5, 99, top} {
		rejects(t, func() *track.Progress { return replicating(t, 4, 2, 6, 9) },
			answer{0, hint, false, "Replicate 4 10 false [6 9]"},
			answer{3, hint, false, "Replicate 4 10 false [6 9]"},
			answer{4, hint, false, "Replicate 4 10 false [6 9]"},
			answer{5, hint, true, "Probe 4 5 true []"},
			answer{6, hint, true, "Probe 4 5 true []"},
			answer{9, hint, true, "Probe 4 5 true []"},
			answer{10, hint, true, "Probe 4 5 true []"},
			answer{top, hint, true, "Probe 4 5 true []"})
	}
	// The window is empty when it replicates again.
	p := replicating(t, 4, 2, 6, 9)
	p.Rejected(6, 0)
	p.Acked(4)
	look(t, p, "Replicate 4 5 true []")
	p.Sent(5)
	look(t, p, "Replicate 4 6 true [5]")
}

func TestP9_6_RejectedInProbe(t *testing.T) {
	for _, paused := range []bool{false, true} {
		at8 := func() *track.Progress {
			p := made(t, 8, 2)
			if paused {
				p.Sent(9)
			}
			return p
		}
		rejects(t, at8,
			answer{7, 0, true, "Probe 0 1 true []"},
			answer{7, 1, true, "Probe 0 2 true []"},
			answer{7, 3, true, "Probe 0 4 true []"},
			answer{7, 5, true, "Probe 0 6 true []"},
			answer{7, 6, true, "Probe 0 7 true []"},
			answer{7, 7, true, "Probe 0 7 true []"},
			answer{7, 8, true, "Probe 0 7 true []"},
			answer{7, 99, true, "Probe 0 7 true []"},
			answer{7, top, true, "Probe 0 7 true []"})
		// Those that answer another message do nothing: it is paused as it was.
		for _, index := range []int{0, 1, 5, 6, 8, 9, top} {
			for _, hint := range []int{0, 3, 6, 7, 8, top} {
				rejects(t, at8, answer{index, hint, false, say("Probe 0 8", !paused, "[]")})
			}
		}
	}
}

// Next stays behind Match, whatever the node says.
func TestP9_6_NotBelowMatch(t *testing.T) {
	for _, paused := range []bool{false, true} {
		for _, hint := range []int{0, 3, 4, 5, 6, 99} {
			rejects(t, func() *track.Progress { return probing(t, 5, 2, paused) },
				answer{5, hint, true, "Probe 5 6 true []"},
				answer{4, hint, false, say("Probe 5 6", !paused, "[]")},
				answer{6, hint, false, say("Probe 5 6", !paused, "[]")})
		}
	}
	// At the beginning of the log there is nothing ahead.
	rejects(t, func() *track.Progress { return made(t, 1, 2) },
		answer{0, 0, true, "Probe 0 1 true []"},
		answer{0, 9, true, "Probe 0 1 true []"},
		answer{1, 0, false, "Probe 0 1 true []"})
	rejects(t, func() *track.Progress { return made(t, top+1, 2) },
		answer{top, top, true, say("Probe 0", top, "true []")},
		answer{top, top - 1, true, say("Probe 0", top, "true []")},
		answer{top, top - 2, true, say("Probe 0", top-1, "true []")},
		answer{top - 1, 0, false, say("Probe 0", top+1, "true []")})
}

func TestP9_6_RejectedInSnapshot(t *testing.T) {
	for _, index := range []int{0, 4, 5, 6, 19, 20, 21, top} {
		for _, hint := range []int{0, 3, 5, 20, top} {
			rejects(t, func() *track.Progress { return installing(t, 5, 2, 20) }, answer{index, hint, false, "Snapshot 5 6 false []"})
		}
	}
}

func TestP9_7_BeatInProbe(t *testing.T) {
	for _, paused := range []bool{false, true} {
		p := probing(t, 5, 2, paused)
		p.Beat()
		look(t, p, "Probe 5 6 true []")
	}
	p := made(t, 8, 2)
	p.Sent(9)
	p.Beat()
	look(t, p, "Probe 0 8 true []")
}

func TestP9_7_BeatInReplicate(t *testing.T) {
	p := replicating(t, 4, 3, 6, 7)
	p.Beat()
	look(t, p, "Replicate 4 8 true [6 7]")
	p.Sent(11)
	look(t, p, "Replicate 4 12 false [6 7 11]")
	p.Beat()
	look(t, p, "Replicate 4 12 true [7 11]")
	p.Beat()
	look(t, p, "Replicate 4 12 true [7 11]")
	p.Sent(12)
	look(t, p, "Replicate 4 13 false [7 11 12]")
	p.Beat()
	look(t, p, "Replicate 4 13 true [11 12]")
	p = replicating(t, 4, 1)
	p.Beat()
	look(t, p, "Replicate 4 5 true []")
	p.Sent(5)
	look(t, p, "Replicate 4 6 false [5]")
	p.Beat()
	look(t, p, "Replicate 4 6 true []")
}

func TestP9_7_BeatInSnapshot(t *testing.T) {
	p := installing(t, 5, 2, 20)
	p.Beat()
	look(t, p, "Probe 5 6 true []")
	// Next comes back, and what was paused isn't any more.
	p = made(t, 40, 2)
	p.Sent(40)
	p.Snap(20)
	p.Beat()
	look(t, p, "Probe 0 1 true []")
	// That snapshot binds no longer.
	is(t, p.Acked(7), true)
	look(t, p, "Replicate 7 8 true []")
}

func TestP9_7_Snap(t *testing.T) {
	for _, x := range []struct {
		p    *track.Progress
		want string
	}{
		{made(t, 8, 2), "Snapshot 0 8 false []"},
		{probing(t, 5, 2, true), "Snapshot 5 6 false []"},
		{replicating(t, 5, 3, 6, 9), "Snapshot 5 10 false []"},
		{replicating(t, 5, 2, 6, 9), "Snapshot 5 10 false []"},
		{installing(t, 5, 2, 30), "Snapshot 5 6 false []"},
	} {
		x.p.Snap(20)
		look(t, x.p, x.want)
		// The last one that it was told counts.
		x.p.Acked(20)
		look(t, x.p, "Probe 20 21 true []")
	}
	p := installing(t, 5, 2, 20)
	p.Snap(25)
	p.Acked(24)
	look(t, p, "Snapshot 24 25 false []")
	p.Acked(25)
	look(t, p, "Probe 25 26 true []")
	// It may be of the last index that there is.
	p.Snap(top)
	p.Acked(top - 1)
	look(t, p, say("Snapshot", top-1, top, "false []"))
	p.Acked(top)
	look(t, p, say("Probe", top, top+1, "true []"))
}
