package snap_test

import (
	"bytes"
	"encoding/binary"
	"fmt"
	"math/rand/v2"
	"slices"
	"testing"

	"synod/api"
	"synod/disk"
	"synod/snap"
)

// The chapter once more, in other words: the model has a disk of its own, which all that the other disk is told is told, too.

// modelIndex is the index of a name, 0 of none.
func modelIndex(s string) int {
	if len(s) != 24 || s[:5] != "snap-" {
		return 0
	}
	var n uint64
	for _, c := range []byte(s[5:]) {
		if c < '0' || c > '9' {
			return 0
		}
		n = 10*n + uint64(c-'0')
	}
	if n > api.MaxIndex {
		return 0
	}
	return int(n)
}

// modelRead is the snapshot that bytes are, if they are one of an index.
func modelRead(b []byte, index int) (api.Snap, bool) {
	if len(b) < 8 || !bytes.Equal(b, laid(b[8:])) || len(b) > 8+api.MaxFrame {
		return api.Snap{}, false
	}
	rest, list := b[8:], [3]int{}
	for i := range list {
		n, k := binary.Uvarint(rest)
		if k <= 0 || n > api.MaxIndex {
			return api.Snap{}, false
		}
		list[i], rest = int(n), rest[k:]
	}
	s := api.Snap{Index: list[0], Term: list[1], Data: rest}
	right := list[2] == len(rest) && bytes.Equal(text(s), b[8:]) && s.Index == index && s.Term > 0 && len(rest) <= api.MaxSnap
	return s, right
}

func modelList(d *disk.Disk) []int {
	var l []int
	for _, f := range d.Files() {
		if i := modelIndex(f.Name); i > 0 {
			l = append(l, i)
		}
	}
	slices.Sort(l)
	return l
}

func modelLoad(d *disk.Disk) (best api.Snap, passed int, e api.Errno) {
	e = api.ErrNone
	for _, i := range modelList(d) {
		b, _ := d.Read(name(i))
		if s, ok := modelRead(b, i); ok {
			best, passed, e = s, 0, api.OK
		} else if e == api.OK {
			passed++
		}
	}
	return
}

func modelSave(d *disk.Disk, s api.Snap) api.Errno {
	switch {
	case s.Index == 0 && s.Term == 0 && len(s.Data) == 0:
		return api.ErrForm
	case s.Index < 1 || s.Term < 1 || s.Index > api.MaxIndex || s.Term > api.MaxIndex:
		return api.ErrRange
	case len(s.Data) > api.MaxSnap:
		return api.ErrLong
	}
	return steps(d, s, 5)
}

func modelKeep(d *disk.Disk, n int) (int, api.Errno) {
	if n < 1 {
		return 0, api.ErrRange
	}
	removed := 0
	if d.Has(snap.Temp) {
		if e := d.Remove(snap.Temp); e != api.OK {
			return 0, e
		}
		removed++
	}
	for l := modelList(d); len(l) > n; l = l[1:] {
		if e := d.Remove(name(l[0])); e != api.OK {
			return 0, e
		}
		removed++
	}
	return removed, api.OK
}

// play has two disks that are told the same: snap's, and the model's.
type play struct {
	pick  *rand.Rand
	mine  *disk.Disk
	model *disk.Disk
	big   []byte // data of the most bytes
}

func (p *play) any(list ...int) int { return list[p.pick.IntN(len(list))] }

func (p *play) index() int {
	switch p.pick.IntN(12) {
	case 0:
		return p.any(0, -1, api.MaxIndex, api.MaxIndex+1, api.MaxIndex-1)
	case 1:
		return p.any(9, 10, 99, 100, 999999999999999999, 1000000000000000000)
	}
	return 1 + p.pick.IntN(6)
}

func (p *play) snap() api.Snap {
	s := api.Snap{Index: p.index(), Term: 1 + p.pick.IntN(300)}
	switch p.pick.IntN(20) {
	case 0:
		s.Term = p.any(0, -1, api.MaxIndex, api.MaxIndex+1)
	case 1:
		s = api.Snap{}
	}
	s.Data = p.big[:p.pick.IntN(40)]
	if p.pick.IntN(400) == 0 {
		s.Data = p.big[:p.any(api.MaxSnap, api.MaxSnap+1)]
	}
	return s
}

// name is a file's: one that is there, or another one.
func (p *play) name() string {
	if l := p.mine.List(); len(l) > 0 && p.pick.IntN(4) > 0 {
		return l[p.pick.IntN(len(l))]
	}
	if p.pick.IntN(3) == 0 {
		return []string{snap.Temp, "a", "snap-5", "snap-0000000000000000000", "snap-4611686018427387905", "snap-00000000000000000x5"}[p.pick.IntN(6)]
	}
	return name(max(1, p.index()))
}

// spoil does something to a file, past snap.
func (p *play) spoil() {
	both := []*disk.Disk{p.mine, p.model}
	from, to := p.name(), p.name()
	b, _ := p.mine.Read(from)
	at, what := p.pick.IntN(len(b)+1), p.pick.IntN(7)
	for _, d := range both {
		switch what {
		case 0:
			d.Cut(from, at)
		case 1:
			d.Append(from, b[at:])
		case 2:
			d.Rename(from, to)
		case 3:
			d.Create(to)
		case 4:
			d.Sync(from)
		case 5:
			d.Append(to, b)
		case 6:
			d.Remove(from)
		}
	}
}

// act does one thing with both, and tells what each of them answered.
func (p *play) act() (string, string, string) {
	switch k := p.pick.IntN(20); {
	case k < 8:
		s := p.snap()
		return "Save " + answer(s, 0, 0), say(snap.Save(p.mine, s)), say(modelSave(p.model, s))
	case k < 10:
		n := p.any(0, -1, 1, 1, 1, 2, 3, 4, 5, 6, api.MaxIndex)
		a, e := snap.Keep(p.mine, n)
		b, f := modelKeep(p.model, n)
		return fmt.Sprint("Keep ", n), say(a, e), say(b, f)
	case k < 12:
		n := p.pick.IntN(8)
		p.mine.Arm(n)
		p.model.Arm(n)
		return fmt.Sprint("Arm ", n), "", ""
	case k < 15:
		keep := p.pick.IntN(60) - 1
		p.mine.Crash(keep)
		p.model.Crash(keep)
		return fmt.Sprint("Crash ", keep), "", ""
	}
	p.spoil()
	return "spoil", "", ""
}

// differ tells where both disks, or what is told of them, are no longer alike.
func (p *play) differ() string {
	if a, b := shown(p.mine.Files()), shown(p.model.Files()); a != b {
		return fmt.Sprint("the files are\n", a, "; not\n", b)
	}
	if a, b := p.mine.Down(), p.model.Down(); a != b {
		return fmt.Sprint("Down is ", a)
	}
	if a, b := loaded(p.mine), answer(modelLoad(p.model)); a != b {
		return fmt.Sprint("Load is ", a, "; not ", b)
	}
	if a, b := snap.List(p.mine), modelList(p.model); !slices.Equal(a, b) {
		return fmt.Sprint("List is ", a, "; not ", b)
	}
	return ""
}

func TestP6_2_P6_3_P6_4_Plays(t *testing.T) {
	big := make([]byte, api.MaxSnap+1)
	for i := range big {
		big[i] = byte(i * i >> 3)
	}
	answers := map[string]int{}
	for seed := range uint64(400) {
		p := &play{rand.New(rand.NewPCG(6, seed)), disk.New(), disk.New(), big}
		for i := range 60 {
			what, mine, model := p.act()
			if mine != model {
				t.Fatalf("%d, %d: %s is %s; not %s", seed, i, what, mine, model)
			}
			answers[fmt.Sprintf("%.4s %s", what, mine)]++
			if s := p.differ(); s != "" {
				t.Fatalf("%d, %d: behind %s %s", seed, i, what, s)
			}
		}
	}
	for _, s := range []string{"Save 0", "Save 1", "Save 3", "Save 4", "Save 11", "Keep 0 0", "Keep 1 0", "Keep 2 0", "Keep 4 0", "Keep 0 1", "Keep 0 11"} {
		if answers[s] < 3 {
			t.Errorf("too few of %q: %v", s, answers)
		}
	}
}
