package raftlog_test

import (
	"math"
	"runtime"
	"testing"
	"weak"

	"synod/api"
	"synod/raftlog"
)

// scribble writes all over entries, over their data, and over the spare room of both.
func scribble(l []api.Entry) {
	for i := range l[:cap(l)] {
		x := &l[:cap(l)][i]
		for k := range x.Data[:cap(x.Data)] {
			x.Data[:cap(x.Data)][k] = '!'
		}
		_ = append(x.Data, "???"...)
		*x = api.Entry{Term: 77, Index: 77, Kind: 77, Data: []byte("!")}
	}
	_ = append(l, api.Entry{Term: 78, Index: 78})
}

// roomy is entries in a list with spare room, each with data of that length in a list with spare room: what lies there are entries
// and bytes too, that belong to nobody.
func roomy(index, term, n, length int) []api.Entry {
	l := make([]api.Entry, n, n+3)
	for i := range l[:cap(l)] {
		data := []byte("abcdefghijklmnopqrstuvwxyz")
		l[:cap(l)][i] = api.Entry{Term: term, Index: index + i, Kind: api.ECommand, Data: data[:length]}
	}
	return l
}

// allOf is entries as text, with all that lies behind their lengths.
func allOf(l []api.Entry) string {
	s := say(len(l), cap(l))
	for _, x := range l[:cap(l)] {
		s += say(x.Term, x.Index, x.Kind, len(x.Data), cap(x.Data), string(x.Data[:cap(x.Data)]))
	}
	return s
}

// handsIn are the calls that are handed entries behind 5 of term 2.
func handsIn(t *testing.T) map[string]func(l []api.Entry) *raftlog.Log {
	return map[string]func(l []api.Entry) *raftlog.Log{
		"New": func(l []api.Entry) *raftlog.Log { return made(t, 5, 2, 0, l...) },
		"Append": func(l []api.Entry) *raftlog.Log {
			log := made(t, 5, 2, 0)
			for _, x := range l {
				log.Append(x.Term, x.Kind, x.Data)
			}
			return log
		},
		"Try behind the last one": func(l []api.Entry) *raftlog.Log {
			log := made(t, 5, 2, 0)
			log.Try(5, 2, 0, l)
			return log
		},
		"Try in the place of others": func(l []api.Entry) *raftlog.Log {
			log := made(t, 5, 2, 0, many(9, 2, 6)...)
			log.Try(5, 2, 0, l)
			return log
		},
		"Try behind one that is there": func(l []api.Entry) *raftlog.Log {
			log := made(t, 5, 2, 0, command(3, 6, string(append([]byte(nil), l[0].Data...))))
			log.Try(5, 2, 0, l)
			return log
		},
	}
}

func TestP8_8_HandedInIsNeitherChangedNorKept(t *testing.T) {
	for name, call := range handsIn(t) {
		for n := 1; n < 6; n++ {
			for length := range 12 {
				l := roomy(6, 3, n, length)
				before := allOf(l)
				log := call(l)
				if allOf(l) != before {
					t.Errorf("%s: the list is changed", name)
				}
				want := shown(l)
				for range 2 {
					have, _ := log.Entries(6, 99)
					is(t, shown(have), want)
					scribble(l)
				}
				// What is appended later does not go into the spare room that was handed in.
				l = roomy(6, 3, n, length)
				log = call(l)
				before = allOf(l)
				log.Append(9, api.ECommand, []byte("later"))
				log.Try(5, 2, 0, of(6, 8, 8, 8, 8, 8))
				if allOf(l) != before {
					t.Errorf("%s: the list is changed later", name)
				}
			}
		}
	}
}

// A call that is refused leaves what it was handed as it is, too.
func TestP8_8_RefusedIsNotChanged(t *testing.T) {
	l := roomy(6, 3, 4, 5)
	before := allOf(l)
	raftlog.New(5, 4, 0, l)
	raftlog.New(-1, 4, 0, l)
	raftlog.New(7, 2, 0, l)
	log := made(t, 5, 2, 9, of(6, 2, 2, 2)...)
	log.Try(5, 2, 0, l)
	log.Try(5, 1, 0, l)
	log.Append(1, api.ECommand, l[0].Data)
	log.Append(2, api.EEmpty, l[0].Data)
	is(t, allOf(l), before)
}

// answers are the calls that answer the entries 6, 7, .. of a log of n of them.
func answers(t *testing.T, n, length int) map[string]func() (*raftlog.Log, []api.Entry) {
	return map[string]func() (*raftlog.Log, []api.Entry){
		"Entries": func() (*raftlog.Log, []api.Entry) {
			l := made(t, 5, 2, 0, roomy(6, 3, n, length)...)
			list, _ := l.Entries(6, n)
			return l, list
		},
		"some Entries": func() (*raftlog.Log, []api.Entry) {
			l := made(t, 5, 2, 0, roomy(6, 3, n+3, length)...)
			list, _ := l.Entries(6, n)
			return l, list
		},
		"Hand": func() (*raftlog.Log, []api.Entry) {
			l := made(t, 5, 2, 0)
			l.Try(5, 2, 0, roomy(6, 3, n, length))
			return l, l.Hand()
		},
		"Next": func() (*raftlog.Log, []api.Entry) {
			l := made(t, 5, 2, 99, roomy(6, 3, n+2, length)...)
			return l, l.Next(n)
		},
	}
}

// Whatever is written into an answer, or behind it, no log shows it, and no other answer.
func TestP8_8_AnswersAreNew(t *testing.T) {
	for n := range 6 {
		for length := range 12 {
			for _, call := range answers(t, n, length) {
				l, list := call()
				is(t, shown(list), shown(roomy(6, 3, n, length)))
				before := whole(t, l)
				kept, _ := l.Entries(6, 99)
				want := shown(kept)
				scribble(list)
				look(t, l, before)
				is(t, shown(kept), want)
				scribble(kept)
				look(t, l, before)
				l.Append(9, api.ECommand, []byte("more"))
				last, _ := l.Last()
				more, _ := l.Entries(last, 1)
				is(t, shown(more), say(last)+"/9=more")
			}
		}
	}
}

// Of one answer, no entry's data reaches into another one's.
func TestP8_8_DataApart(t *testing.T) {
	for length := range 12 {
		for name, call := range answers(t, 4, length) {
			_, list := call()
			for i := range list {
				want := shown(append(append([]api.Entry(nil), list[:i]...), list[i+1:]...))
				data := list[i].Data
				for k := range data[:cap(data)] {
					data[:cap(data)][k] = '!'
				}
				_ = append(data, "??????????????????"...)
				if have := shown(append(append([]api.Entry(nil), list[:i]...), list[i+1:]...)); have != want {
					t.Errorf("%s: %s; not %s", name, have, want)
				}
			}
		}
	}
}

// An answer that was handed out stays what it is, whatever is done later; its spare room tells nothing.
func TestP8_8_AnswersStay(t *testing.T) {
	for n := range 6 {
		for name, call := range answers(t, n, 7) {
			l, list := call()
			want := shown(list)
			before := allOf(list)
			for _, x := range list[len(list):cap(list)] {
				is(t, say(x.Term, x.Index, x.Kind, len(x.Data)), "0 0 0 0")
			}
			l.Append(9, api.ECommand, []byte("xxxxxxx"))
			l.Commit(math.MaxInt)
			l.Hand()
			last, term := l.Last()
			l.Stable(last, term)
			l.Next(99)
			l.Applied(last)
			l.Compact(7)
			l.Compact(last)
			l.Try(last, term, 0, of(last+1, 9, 9, 9))
			l.Try(last, term, 0, of(last+1, 10, 10, 10))
			l.Restore(99, 9)
			l.Append(10, api.ECommand, []byte("yyyyyyy"))
			if shown(list) != want || allOf(list) != before {
				t.Errorf("%s: %s; not %s", name, shown(list), want)
			}
		}
	}
}

// What was handed in is kept by nobody, not even where it is empty.
func TestP8_8_HandedInIsLetGo(t *testing.T) {
	for name, call := range handsIn(t) {
		for _, length := range []int{0, 1, 300} {
			data, list := new([512]byte), new([8]api.Entry)
			watch, listWatch := weak.Make(data), weak.Make(list)
			for i := range list {
				list[i] = api.Entry{Term: 3, Index: 6 + i, Kind: api.ECommand, Data: data[:length]}
			}
			log := call(list[:4])
			data, list = nil, nil
			runtime.GC()
			if watch.Value() != nil || listWatch.Value() != nil {
				t.Errorf("%s: data of %d bytes, or the list, is kept", name, length)
			}
			runtime.KeepAlive(log)
		}
	}
}

// heap is how many bytes are in use.
func heap() int {
	runtime.GC()
	runtime.GC()
	var m runtime.MemStats
	runtime.ReadMemStats(&m)
	return int(m.HeapAlloc)
}

// What is gone from a log is kept by it no longer.
func TestP8_8_GoneIsLetGo(t *testing.T) {
	const n, last = 2000, 2005
	for name, let := range map[string]func(l *raftlog.Log){
		"Compact": func(l *raftlog.Log) {
			l.Commit(last)
			l.Next(n)
			l.Applied(last)
			l.Compact(last - 1)
		},
		"Restore": func(l *raftlog.Log) { l.Restore(last+1, 9) },
		"Try":     func(l *raftlog.Log) { l.Try(6, 3, 0, many(1, 4, 7)) },
	} {
		l := made(t, 5, 2, 0)
		for i := range n {
			if _, e := l.Append(3, api.ECommand, make([]byte, api.MaxData)); e != api.OK {
				t.Fatalf("Append %d: %d", i, e)
			}
		}
		l.Hand()
		l.Stable(last, 3)
		full := heap()
		let(l)
		if gone := full - heap(); gone < n*api.MaxData*9/10 {
			t.Errorf("%s: %d bytes are let go; not %d", name, gone, n*api.MaxData)
		}
		runtime.KeepAlive(l)
	}
}
