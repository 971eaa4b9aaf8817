package core_test

import (
	"cmp"
	"reflect"
	"runtime"
	"slices"
	"testing"
	"weak"

	"synod/api"
	"synod/core"
)

// Whatever is written into what was handed in, or into an answer, no core shows it: it goes on as its model does.
func TestP10_12_WrittenOver(t *testing.T) {
	p := newPlayer(12)
	for range 1000 {
		p.begin(t, true)
		for range 150 {
			p.play()
			_, _, entries := p.c.Log()
			overEntries(entries)
		}
	}
	p.enough(t, 20)
}

// The same of New: what it is handed is written over as soon as it has answered.
func TestP10_12_NewKeepsNothing(t *testing.T) {
	entries := roomyEntries([]api.Entry{command(3, 4, "four"), command(5, 5, "five")})
	snap := api.Snap{Index: 3, Term: 2, Data: roomyBytes([]byte("snap"))}
	before := say(entries[:4], snap.Data[:9])
	k := makeKit(t, opts(1, 2), api.State{Term: 8, Commit: 5}, snap, entries...)
	c, e := core.New(opts(1, 2), api.State{Term: 8, Commit: 5}, snap, entries, 0)
	is(t, say(entries[:4], snap.Data[:9]), before)
	is(t, e, api.OK)
	k.c = c
	overEntries(entries)
	overBytes(snap.Data)
	k.log("3 2 ; 4/3=four 5/5=five")
	k.work("apply 4/3=four 5/5=five")
	k.tick(10)
	k.step(voteYes(2, 1, 9))
	k.done()
	k.step(appNo(2, 1, 9, 5, 0))
	k.work("now Snap 1>2 t9 {3/2=snap}")
}

// What is handed in is not changed, nor what lies behind its length.
func TestP10_12_HandedInStays(t *testing.T) {
	k := blank(t, 2, 3)
	m := app(1, 2, 1, 0, 0, 0)
	m.Entries = roomyEntries([]api.Entry{command(1, 1, "one"), command(1, 2, "two")})
	before := say(m.Entries[:4])
	k.step(m)
	k.done()
	is(t, say(m.Entries[:4]), before)
	m = snapMsg(1, 2, 1, api.Snap{Index: 9, Term: 1, Data: roomyBytes([]byte("snap"))})
	before = string(m.Snap.Data[:9])
	k.step(m)
	k.done()
	is(t, string(m.Snap.Data[:9]), before)
	k = leading(t, opts(1, 1))
	data := roomyBytes([]byte("data"))
	k.c.Propose(data)
	k.done()
	is(t, string(data[:9]), "dataroomy")
	s := api.Snap{Index: 2, Term: 1, Data: roomyBytes([]byte("snap"))}
	is(t, k.c.Compact(s, 0), api.OK)
	is(t, string(s.Data[:9]), "snaproomy")
}

// span is a piece of memory that a list has, with its spare room.
type span struct {
	from, to uintptr
	name     string
}

// spans are those of all lists in a thing.
func spans(name string, v reflect.Value) []span {
	var l []span
	switch v.Kind() {
	case reflect.Struct:
		for i := range v.NumField() {
			l = append(l, spans(name+"."+v.Type().Field(i).Name, v.Field(i))...)
		}
	case reflect.Slice:
		if size := uintptr(v.Cap()) * v.Type().Elem().Size(); size > 0 {
			l = append(l, span{v.Pointer(), v.Pointer() + size, name})
		}
		for i := range v.Len() {
			l = append(l, spans(name, v.Index(i))...)
		}
	}
	return l
}

// keeper keeps all that goes in and out of a core, and where its lists lie.
type keeper struct {
	things []any
	spans  []span
}

func (k *keeper) keep(name string, x any) {
	k.things = append(k.things, x)
	k.spans = append(k.spans, spans(name, reflect.ValueOf(x))...)
}

// apart holds that no two of the lists have memory in common.
func (k *keeper) apart(t *testing.T) {
	t.Helper()
	slices.SortFunc(k.spans, func(a, b span) int { return cmp.Compare(a.from, b.from) })
	for i := 1; i < len(k.spans); i++ {
		if a, b := k.spans[i-1], k.spans[i]; a.to > b.from {
			t.Fatalf("%s and %s share memory", a.name, b.name)
		}
	}
	runtime.KeepAlive(k.things)
}

// No two lists that were answered share memory, spare room too, of one answer or of two; nor with one that was handed in.
func TestP10_12_ListsAreApart(t *testing.T) {
	p := newPlayer(13)
	lists := 0
	for range 200 {
		p.begin(t, false)
		k := &keeper{}
		for range 150 {
			switch p.r.IntN(4) {
			case 0:
				w, _ := p.ready()
				k.keep("Ready", w)
			case 1:
				_, _, entries := p.c.Log()
				k.keep("Log", entries)
			case 2:
				m := p.message()
				m.Entries, m.Snap.Data = roomyEntries(m.Entries), roomyBytes(m.Snap.Data)
				k.keep("Step", m)
				p.step(m)
			default:
				p.play()
			}
		}
		k.apart(t)
		lists += len(k.spans)
	}
	if lists < 50000 {
		t.Errorf("%d lists alone", lists)
	}
}

// What was handed in is kept by nobody, not even where it is empty.
func TestP10_12_HandedInIsLetGo(t *testing.T) {
	for _, length := range []int{0, 1, 300} {
		for name, call := range map[string]func(data []byte, list []api.Entry) *core.Core{
			"New": func(data []byte, list []api.Entry) *core.Core {
				return makeKit(t, opts(1, 1), api.State{Term: 1}, api.Snap{Index: 3, Term: 1, Data: data}, list...).c
			},
			"Step of entries": func(data []byte, list []api.Entry) *core.Core {
				k := makeKit(t, opts(1, 2), api.State{Term: 1}, snapOf(3, 1, "s"))
				k.step(app(2, 1, 1, 3, 1, 0, list...))
				return k.c
			},
			"Step of a snapshot": func(data []byte, list []api.Entry) *core.Core {
				k := makeKit(t, opts(1, 2), api.State{Term: 1}, snapOf(3, 1, "s"))
				k.step(snapMsg(2, 1, 1, api.Snap{Index: 9, Term: 1, Data: data}))
				return k.c
			},
			"Propose": func(data []byte, list []api.Entry) *core.Core {
				k := leading(t, opts(1, 1))
				k.c.Propose(data)
				return k.c
			},
			"Compact": func(data []byte, list []api.Entry) *core.Core {
				k := leading(t, opts(1, 1))
				is(t, k.c.Compact(api.Snap{Index: 1, Term: 1, Data: data}, 0), api.OK)
				return k.c
			},
		} {
			data, list := new([512]byte), new([8]api.Entry)
			watch, listWatch := weak.Make(data), weak.Make(list)
			for i := range list {
				list[i] = api.Entry{Term: 1, Index: 4 + i, Kind: api.ECommand, Data: data[:length]}
			}
			c := call(data[:length], list[:4])
			data, list = nil, nil
			runtime.GC()
			if watch.Value() != nil || listWatch.Value() != nil {
				t.Errorf("%s: data of %d bytes, or the list, is kept", name, length)
			}
			runtime.KeepAlive(c)
		}
	}
}

// heap is how many bytes are in use.
func heap() int {
	runtime.GC()
	runtime.GC()
	var m runtime.MemStats
	runtime.ReadMemStats(&m)
	return int(m.HeapAlloc)
}

// What was told is kept no longer: neither works, nor older snapshots.
func TestP10_12_ToldIsLetGo(t *testing.T) {
	k := leading(t, opts(1, 1))
	big := make([]byte, api.MaxSnap)
	before := heap()
	for i := range 400 {
		k.propose(string(big[:api.MaxData]), 2+i, 1)
		k.done()
		is(t, k.c.Compact(api.Snap{Index: 2 + i, Term: 1, Data: big}, 0), api.OK)
	}
	if more := heap() - before; more > 3*api.MaxSnap {
		t.Errorf("%d bytes are kept", more)
	}
	runtime.KeepAlive(k)
	runtime.KeepAlive(big)
}
