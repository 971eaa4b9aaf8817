package disk_test

import (
	"cmp"
	"math/rand/v2"
	"slices"
	"testing"

	"synod/api"
	"synod/disk"
)

// device is what a disk can do.
type device interface {
	Create(name string) api.Errno
	Append(name string, b []byte) api.Errno
	Sync(name string) api.Errno
	Cut(name string, n int) api.Errno
	Rename(from, to string) api.Errno
	Remove(name string) api.Errno
	Read(name string) ([]byte, api.Errno)
	Has(name string) bool
	List() []string
	Files() []api.File
	Size() int
	Arm(n int)
	Down() bool
	Crash(keep int)
}

// cell is a byte that knows whether it is durable.
type cell struct {
	c       byte
	durable bool
}

// paper is a file of the model; it knows whether it is the one appended to last.
type paper struct {
	name  string
	cells []cell
	last  bool
}

// model is the chapter's disk, told byte by byte: its files are a list, and each write makes a new one.
type model struct {
	papers []paper
	left   int // writes up to the failing one, this one too; 0: it isn't armed
	down   bool
}

// modelOf is the model of a disk that was loaded.
func modelOf(files []api.File) *model {
	m := &model{}
	for _, f := range files {
		p := paper{name: f.Name}
		for i, c := range f.Data {
			p.cells = append(p.cells, cell{c, i < f.Synced})
		}
		m.papers = append(m.papers, p)
	}
	return m
}

// find is the file of a name, and whether there is one.
func (m *model) find(name string) (paper, bool) {
	for _, p := range m.papers {
		if p.name == name {
			return p, true
		}
	}
	return paper{}, false
}

// without is the files but that of a name.
func (m *model) without(name string) []paper {
	var l []paper
	for _, p := range m.papers {
		if p.name != name {
			l = append(l, p)
		}
	}
	return l
}

// write does a write: its own errors, whether it fails, what is done and what is done if it fails.
func (m *model) write(own api.Errno, done, failed func()) api.Errno {
	switch {
	case m.down:
		return api.ErrDown
	case own != api.OK:
		return own
	case m.left == 1:
		m.left, m.down = 0, true
		failed()
		return api.ErrDown
	case m.left > 1:
		m.left--
	}
	done()
	return api.OK
}

func nothing() {}

// first is the first error that holds.
func first(errs ...api.Errno) api.Errno {
	for _, e := range errs {
		if e != api.OK {
			return e
		}
	}
	return api.OK
}

// when is an error, if it holds.
func when(holds bool, e api.Errno) api.Errno {
	if holds {
		return e
	}
	return api.OK
}

// wellNamed tells whether a text is a file's name.
func wellNamed(name string) bool {
	rest := len(name)
	for _, c := range []byte(name) {
		if slices.Contains([]byte("abcdefghijklmnopqrstuvwxyz0123456789-."), c) {
			rest--
		}
	}
	return rest == 0 && len(name) > 0 && len(name) <= 32
}

func (m *model) Create(name string) api.Errno {
	_, has := m.find(name)
	own := first(when(!wellNamed(name), api.ErrName), when(has, api.ErrThere), when(len(m.papers) == 256, api.ErrFull))
	return m.write(own, func() { m.papers = append(m.without(name), paper{name: name}) }, nothing)
}

func (m *model) Append(name string, b []byte) api.Errno {
	p, has := m.find(name)
	own := first(when(!has, api.ErrNone), when(m.Size()+len(b) > 1<<24, api.ErrFull))
	lay := func(b []byte) {
		rest := m.without(name)
		for i := range rest {
			rest[i].last = false
		}
		cells := slices.Clone(p.cells)
		for _, c := range b {
			cells = append(cells, cell{c, false})
		}
		m.papers = append(rest, paper{name, cells, true})
	}
	return m.write(own, func() { lay(b) }, func() { lay(b[:len(b)/2]) })
}

func (m *model) Sync(name string) api.Errno {
	p, has := m.find(name)
	return m.write(when(!has, api.ErrNone), func() {
		cells := slices.Clone(p.cells)
		for i := range cells {
			cells[i].durable = true
		}
		m.papers = append(m.without(name), paper{name, cells, p.last})
	}, nothing)
}

func (m *model) Cut(name string, n int) api.Errno {
	p, has := m.find(name)
	own := first(when(!has, api.ErrNone), when(n < 0 || n > len(p.cells), api.ErrRange))
	return m.write(own, func() {
		m.papers = append(m.without(name), paper{name, slices.Clone(p.cells[:n]), p.last})
	}, nothing)
}

func (m *model) Rename(from, to string) api.Errno {
	p, has := m.find(from)
	own := first(when(!has, api.ErrNone), when(!wellNamed(to), api.ErrName))
	return m.write(own, func() {
		m.papers = m.without(from)
		m.papers = append(m.without(to), paper{to, p.cells, p.last})
	}, nothing)
}

func (m *model) Remove(name string) api.Errno {
	_, has := m.find(name)
	return m.write(when(!has, api.ErrNone), func() { m.papers = m.without(name) }, nothing)
}

func (m *model) Files() []api.File {
	var l []api.File
	for _, p := range m.papers {
		f := api.File{Name: p.name}
		for _, c := range p.cells {
			f.Data = append(f.Data, c.c)
			if c.durable {
				f.Synced++
			}
		}
		l = append(l, f)
	}
	slices.SortFunc(l, func(a, b api.File) int { return cmp.Compare(a.Name, b.Name) })
	return l
}

func (m *model) Read(name string) ([]byte, api.Errno) {
	p, has := m.find(name)
	var b []byte
	for _, c := range p.cells {
		b = append(b, c.c)
	}
	return b, when(!has, api.ErrNone)
}

func (m *model) Has(name string) bool {
	_, has := m.find(name)
	return has
}

func (m *model) List() []string {
	var l []string
	for _, f := range m.Files() {
		l = append(l, f.Name)
	}
	return l
}

func (m *model) Size() int {
	n := 0
	for _, p := range m.papers {
		n += len(p.cells)
	}
	return n
}

func (m *model) Arm(n int) { m.left = max(n, 0) }

func (m *model) Down() bool { return m.down }

func (m *model) Crash(keep int) {
	for i, p := range m.papers {
		var left []cell
		for _, c := range p.cells {
			spared := p.last && keep > 0 && !c.durable
			if spared {
				keep--
			}
			if spared || c.durable {
				left = append(left, cell{c.c, true})
			}
		}
		m.papers[i] = paper{name: p.name, cells: left}
	}
	m.left, m.down = 0, false
}

// names are some that are names, and two that are none.
var names = []string{"a", "b", "c", "a-1", "a.", "", "A"}

// anyCall is a call of any kind; it may be made on more than one device.
func anyCall(pick *rand.Rand) func(device) any {
	name, other := names[pick.IntN(len(names))], names[pick.IntN(len(names))]
	n := pick.IntN(12) - 2
	switch pick.IntN(20) {
	case 0, 1:
		return func(d device) any { return d.Create(name) }
	case 2, 3:
		return func(d device) any { return d.Sync(name) }
	case 4, 5:
		return func(d device) any { return d.Cut(name, n) }
	case 6, 7:
		return func(d device) any { return d.Rename(name, other) }
	case 8:
		return func(d device) any { return d.Remove(name) }
	case 9:
		return func(d device) any { d.Crash(n); return nil }
	case 10:
		return func(d device) any { d.Arm(n); return nil }
	case 11:
		return func(d device) any { return d.Has(name) }
	case 12:
		return func(d device) any {
			b, e := d.Read(name)
			return answer{string(b), e}
		}
	}
	b := make([]byte, max(n, 0))
	for i := range b {
		b[i] = byte('a' + pick.IntN(26))
	}
	return func(d device) any { return d.Append(name, b) }
}

// answer is what Read tells.
type answer struct {
	data string
	err  api.Errno
}

// state is all that a device's reads tell.
func state(d device) string {
	s := shown(d)
	for _, name := range d.List() {
		b, e := d.Read(name)
		s += " " + say(name, string(b), e, d.Has(name))
	}
	return s + " " + say(d.Size(), d.Down())
}

// play makes calls of all kinds on a disk and on its model, and looks at both behind each.
func play(t *testing.T, pick *rand.Rand, d *disk.Disk, m *model, calls int) {
	t.Helper()
	for i := range calls {
		before := state(m)
		call := anyCall(pick)
		if have, want := call(d), call(m); have != want {
			t.Fatalf("call %d at %s: %v; not %v", i, before, have, want)
		}
		if have, want := state(d), state(m); have != want {
			t.Fatalf("call %d at %s: %s; not %s", i, before, have, want)
		}
	}
}

func TestP4_2_AsTheModel(t *testing.T) {
	pick := rand.New(rand.NewPCG(4, 2))
	for range 300 {
		play(t, pick, disk.New(), &model{}, 200)
	}
}

// anyFiles are files of some of the names, with any number of bytes durable.
func anyFiles(pick *rand.Rand) []api.File {
	var l []api.File
	for _, i := range pick.Perm(5)[:pick.IntN(6)] {
		b := []byte("durable or not")[:pick.IntN(15)]
		l = append(l, api.File{Name: names[i], Data: b, Synced: pick.IntN(len(b) + 1)})
	}
	return l
}

func TestP4_1_LoadedAsTheModel(t *testing.T) {
	pick := rand.New(rand.NewPCG(4, 1))
	for range 300 {
		l := anyFiles(pick)
		d, e := disk.Load(l)
		if e != api.OK || state(d) != state(modelOf(l)) {
			t.Fatalf("%v: %d, %s", l, e, state(d))
		}
		play(t, pick, d, modelOf(l), 60)
	}
}

// With a number of files that is nearly the greatest one, each new file may be one too many.
func TestP4_2_FullAsTheModel(t *testing.T) {
	pick := rand.New(rand.NewPCG(2, 4))
	l := many(api.MaxFiles - 2)
	for range 10 {
		d, e := disk.Load(l)
		if e != api.OK {
			t.Fatal(e)
		}
		play(t, pick, d, modelOf(l), 60)
	}
}
