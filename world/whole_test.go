package world_test

import "testing"

// What DOC.md asks of every world: P0.8 to P0.14, in worlds in which anything happens. (P0.15: goes_on_test.go.)

// whole lets worlds go on, each promise in worlds of its own, and holds that enough has happened in them.
func whole(t *testing.T, promise string, first, worlds uint64, often string, tune func(p *play)) {
	t.Helper()
	t.Parallel()
	counts := watched(t, promise, first, worlds, 800, tune)
	enough(t, counts, 50, "leader, commit, crash ok, start ok, "+often)
	if t.Failed() {
		t.Log(counts)
	}
}

// anyhow leaves a play as it is.
func anyhow(*play) {}

// roughly lets more befall the nodes.
func roughly(p *play) { p.rough = 20 + p.r.IntN(50) }

// asking lets there be less loss, so that more is called and answered.
func asking(p *play) { p.rough, p.rest = p.rough/2, 30 }

func TestP0_8_OneLeader(t *testing.T) { whole(t, "P0.8", 30000, 80, "vote, recovered", roughly) }

func TestP0_9_OneLog(t *testing.T) { whole(t, "P0.9", 31000, 60, "apply, snap, recovered", anyhow) }

func TestP0_10_Kept(t *testing.T) { whole(t, "P0.10", 32000, 60, "kept, kept in a snapshot", anyhow) }

func TestP0_11_Linearizable(t *testing.T) {
	whole(t, "P0.11", 33000, 40, "linear, back none, back lead, back busy", asking)
}

func TestP0_12_Once(t *testing.T) { whole(t, "P0.12", 34000, 40, "again, twice, back none", asking) }

func TestP0_13_Pure(t *testing.T) {
	whole(t, "P0.13", 35000, 60, "life, send, sync, apply, snap, end", anyhow)
}

func TestP0_14_Recovered(t *testing.T) {
	whole(t, "P0.14", 36000, 80, "recovered, snap, down", roughly)
}
