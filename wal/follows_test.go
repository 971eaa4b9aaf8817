package wal_test

import (
	"math/rand/v2"
	"slices"
	"testing"

	"synod/api"
	"synod/disk"
	"synod/wal"
)

// above is the entries above an index.
func above(v wal.View, index int) string {
	var l []api.Entry
	for _, e := range v.Entries {
		if e.Index > index {
			l = append(l, e)
		}
	}
	return say(l)
}

// goodBatch is a batch without an error: a state, a mark or none, entries from an index that is no gap.
func goodBatch(pick *rand.Rand, w *wal.Wal) wal.Batch {
	last, _ := w.Last()
	var b wal.Batch
	if pick.IntN(3) == 0 {
		b.HasState, b.State = true, api.State{Term: 1 + pick.IntN(5), Vote: pick.IntN(4), Commit: pick.IntN(last + 1)}
	}
	if pick.IntN(12) == 0 {
		b.Index, b.Term = 1+last+pick.IntN(3), 1+pick.IntN(5)
		last = b.Index
	}
	next := last + 1
	if pick.IntN(6) == 0 {
		next = max(1, last-pick.IntN(5))
	}
	for range pick.IntN(4) {
		b.Entries = append(b.Entries, command(1+pick.IntN(5), next, string(make([]byte, pick.IntN(30)))))
		next++
	}
	return b
}

func TestP5_7_OpenedAgain(t *testing.T) {
	removed := 0
	for seed := range uint64(300) {
		pick := rand.New(rand.NewPCG(57, seed))
		d := disk.New()
		w := opened(t, d, 64+pick.IntN(200), false)
		most := 0 // the greatest index that Compact was told
		for range 30 {
			ok(t, w.Append(goodBatch(pick, w)))
			if pick.IntN(5) == 0 {
				last, _ := w.Last()
				index := pick.IntN(last + 1)
				n, e := w.Compact(index)
				ok(t, e)
				removed += n
				most = max(most, index)
			}
			if pick.IntN(4) > 0 {
				continue
			}
			ok(t, w.Sync())
			d.Crash(pick.IntN(2)) // all is durable
			again := opened(t, d, 64, false)
			i, term := w.Last()
			j, other := again.Last()
			v, u := w.View(), again.View()
			if v.State != u.State || i != j || term != other || above(v, most) != above(u, most) {
				t.Fatalf("%d: %s; was %s; Compact was told %d", seed, shown(u), shown(v), most)
			}
			if say(w.Segments()) != say(again.Segments()) || w.Bytes() != again.Bytes() {
				t.Fatalf("%d: %v, %d; was %v, %d", seed, again.Segments(), again.Bytes(), w.Segments(), w.Bytes())
			}
			if pick.IntN(2) == 0 {
				w = again
			}
		}
	}
	if removed < 100 {
		t.Errorf("%d segments were removed: too few to tell", removed)
	}
}

// Behind a sync, batches are torn at every byte: what is told is what the records say that are whole, one by one.
func TestP5_8_TornAtEveryByte(t *testing.T) {
	begin := func() (*disk.Disk, *wal.Wal) {
		d, w := begun(t)
		ok(t, w.Append(entries(empty(1, 3))), w.Sync())
		return d, w
	}
	for i, b := range []wal.Batch{
		entries(empty(2, 4)),
		entries(empty(2, 2), command(2, 3, "xyz"), empty(2, 4)),
		stated(5, 2, 3, empty(5, 4), empty(5, 5)),
		{HasState: true, State: api.State{Term: 4, Vote: 2, Commit: 8}, Index: 7, Term: 3, Entries: []api.Entry{empty(3, 8), command(4, 9, "z")}},
		stated(1, 1, 2),
		{},
	} {
		// The segment is full: the batch goes into a new one, with nothing but its records that is not durable.
		d, w := begin()
		ok(t, w.Append(b))
		files := d.Files()
		rest := files[len(files)-1]
		if len(files) != 2 || rest.Synced < 15 {
			t.Fatalf("%d: %s", i, filesOf(d))
		}
		texts, _ := unlaid(rest.Data)
		for keep := 0; keep <= len(rest.Data)-15; keep++ {
			d, w := begin()
			ok(t, w.Append(b))
			d.Crash(keep)
			// The view that the whole records leave, one by one.
			m, _, _ := openModel(load(t, files[0]), 64)
			size := 15
			for _, text := range texts[1:] {
				if size+8+len(text) > 15+keep {
					break
				}
				size += 8 + len(text)
				x, _ := noteOf(text)
				m.learn(x, 2)
			}
			look(t, opened(t, d, 64, size < 15+keep), shown(m.View()))
		}
	}
}

// Whatever write fails, and whatever a crash keeps behind it: Open answers OK, with what was synced at least, and with
// whole records of what was written later.
func TestP5_8_Crashes(t *testing.T) {
	for seed := range uint64(400) {
		pick := rand.New(rand.NewPCG(58, seed))
		d := disk.New()
		w := opened(t, d, 64, false)
		// What may be told: the view of the last sync, and each one that a later record left.
		m, _, _ := openModel(disk.New(), 64)
		may, most := []wal.View{m.View()}, 0
		d.Arm(1 + pick.IntN(40))
		for e := api.OK; e == api.OK; {
			synced := false
			switch pick.IntN(6) {
			case 0:
				e, synced = w.Sync(), true
			case 1:
				last, _ := w.Last()
				index := pick.IntN(last + 1)
				most = max(most, index)
				_, e = w.Compact(index)
				synced = true
			default:
				b := goodBatch(pick, w)
				for _, x := range m.notes(b) {
					m.learn(x, 0)
					may = append(may, m.View())
				}
				e = w.Append(b)
			}
			if e == api.OK && synced {
				may = may[len(may)-1:]
			}
		}
		d.Crash(pick.IntN(80))
		again, _, e := wal.Open(d, 64)
		if e != api.OK {
			t.Fatalf("%d: Open is %d", seed, e)
		}
		v := again.View()
		if !slices.ContainsFunc(may, func(x wal.View) bool { return recovered(x, most) == recovered(v, most) }) {
			t.Fatalf("%d: %s; not among %v, above %d", seed, shown(v), may, most)
		}
	}
}

// recovered is what has to be told again of a view, where Compact was told an index.
func recovered(v wal.View, index int) string {
	last, term := v.Base, v.BaseTerm
	if n := len(v.Entries); n > 0 {
		last, term = v.Entries[n-1].Index, v.Entries[n-1].Term
	}
	return say(v.State, last, term, above(v, index))
}

func TestP5_9_Overwritten(t *testing.T) {
	// In the same segment, and in another one.
	for _, bytes := range []int{64, 4096} {
		for from := 1; from <= 9; from++ {
			d := disk.New()
			w := opened(t, d, bytes, false)
			for i := range 8 {
				ok(t, w.Append(entries(empty(1, i+1))))
			}
			ok(t, w.Append(entries(command(2, from, "new"))), w.Sync())
			want := "0 0 0;0 0;"
			for i := 1; i < from; i++ {
				want += say(" ", i, "/1")
			}
			want += say(" ", from, "/2=new")
			look(t, w, want)
			look(t, opened(t, d, bytes, false), want)
			// And what comes behind it.
			ok(t, w.Append(entries(empty(3, from+1))), w.Sync())
			look(t, opened(t, d, bytes, false), want+say(" ", from+1, "/3"))
		}
	}
}

func TestP5_10_CompactTakesNothingAbove(t *testing.T) {
	removed := 0
	for seed := range uint64(300) {
		pick := rand.New(rand.NewPCG(510, seed))
		d := disk.New()
		w := opened(t, d, 64, false)
		for range 25 {
			ok(t, w.Append(goodBatch(pick, w)))
			if pick.IntN(4) > 0 {
				continue
			}
			was, names := w.View(), w.Segments()
			last, term := w.Last()
			index := pick.IntN(last + 1)
			n, e := w.Compact(index)
			ok(t, e)
			removed += n
			now := w.View()
			i, u := w.Last()
			if above(was, index) != above(now, index) || was.State != now.State || i != last || u != term {
				t.Fatalf("%d: Compact(%d) leaves %s of %s", seed, index, shown(now), shown(was))
			}
			// Base and entries go on without a gap, and the last segment stays.
			if now.Base < was.Base || now.Base+len(now.Entries) != was.Base+len(was.Entries) || say(w.Segments()) != say(names[n:]) || n >= len(names) {
				t.Fatalf("%d: Compact(%d) leaves %s of %s, %v of %v", seed, index, shown(now), shown(was), w.Segments(), names)
			}
			if say(w.Segments()) != say(d.List()) || w.Bytes() != d.Size() {
				t.Fatalf("%d: %v, %d; the disk has %v, %d", seed, w.Segments(), w.Bytes(), d.List(), d.Size())
			}
		}
	}
	if removed < 100 {
		t.Errorf("%d segments were removed: too few to tell", removed)
	}
}
