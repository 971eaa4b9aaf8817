package world

import (
	"fmt"
	"math"
	"slices"
	"strings"
	"testing"

	"synod/api"
	"synod/core"
	"synod/node"
)

// fake is a node that tells what it is told to tell, so that what no real node does, or does seldom, is seen, too.
type fake struct {
	id         int
	down, over bool
	log        *[]string // what all fakes of a world were asked
	pick       func(kind int) ([]node.Event, bool)
	call       func(c node.Call) (api.Reply, bool)
}

func (f *fake) wrote(l ...any) {
	*f.log = append(*f.log, strings.TrimSuffix(fmt.Sprintln(append([]any{f.id}, l...)...), "\n"))
}

func (f *fake) Deliver(b []byte) bool { f.wrote("deliver", string(b)); return true }
func (f *fake) Tick(draw int) bool    { f.wrote("tick", draw); return true }
func (f *fake) Stop()                 { f.wrote("stop") }
func (f *fake) Done() bool            { return f.over }
func (f *fake) View() node.View       { return node.View{Up: !f.down} }
func (f *fake) Get(string) api.Reply  { return api.Reply{} }
func (f *fake) Log() (int, int, []api.Entry) {
	return 0, 0, nil
}

func (f *fake) Pick(kind int) ([]node.Event, bool) {
	f.wrote("pick", kind)
	if f.pick == nil {
		return nil, false
	}
	return f.pick(kind)
}

func (f *fake) Call(c node.Call) (api.Reply, bool) {
	f.wrote("call", c)
	if f.call == nil {
		return api.Reply{}, true
	}
	return f.call(c)
}

// faked is a world of so many fakes, and what they are asked.
func faked(t *testing.T, nodes int) (*World, []*fake, *[]string) {
	t.Helper()
	w, err := New(Opts{Nodes: nodes, Clients: 3, Node: node.Opts{
		Core:    core.Opts{Election: 7, Beat: 1, Batch: 1, Window: 1, Reads: 1, Pending: 1},
		Segment: 64, Inbox: 1, Ticks: 1, Calls: 1, Jobs: 1, Applies: 1, Out: 1,
	}})
	if err != api.OK {
		t.Fatal(err)
	}
	log := &[]string{}
	var l []*fake
	for _, s := range w.sites {
		f := &fake{id: s.id, log: log}
		s.node = f
		l = append(l, f)
	}
	return w, l, log
}

// same holds two things against each other as texts.
func same(t *testing.T, have, want any) {
	t.Helper()
	if a, b := fmt.Sprint(have), fmt.Sprint(want); a != b {
		t.Errorf("have %s\nwant %s", a, b)
	}
}

// Each kind of event is told, with what is named for it alone, in the node's order.
func TestP15_3_EachEvent(t *testing.T) {
	w, l, _ := faked(t, 3)
	r := api.Reply{Code: api.RDone, Value: "r"}
	w.Do(Act{Kind: WCall, Client: 2, Node: 1, Op: api.OpGet, Key: "a"})
	l[1].pick = func(int) ([]node.Event, bool) {
		return []node.Event{
			{Kind: node.EEnd, Number: 4, Data: []byte("d"), Reply: r}, {Kind: node.ESend, Number: 3, Data: []byte("to 3"), Reply: r},
			{Kind: node.ESync, Number: 9}, {Kind: node.EReply, Number: 1, Reply: r}, {Kind: node.EReply, Number: 1, Reply: r},
			{Kind: node.EApply, Number: math.MaxInt}, {Kind: node.ESend, Number: 1, Data: []byte("to 1")}, {Kind: node.ESnap, Number: 8},
			{Kind: node.EReply, Number: 2, Reply: r}, {Kind: node.EDown},
		}, true
	}
	want := []Event{
		{Kind: node.EEnd, Node: 2, Number: 4}, {Kind: node.ESend, Node: 2, Number: 3}, {Kind: node.ESync, Node: 2, Number: 9},
		{Kind: EBack, Node: 2, Client: 2, Reply: r}, {Kind: node.EApply, Node: 2, Number: math.MaxInt}, {Kind: node.ESend, Node: 2, Number: 1},
		{Kind: node.ESnap, Node: 2, Number: 8}, {Kind: node.EDown, Node: 2},
	}
	same(t, w.Do(Act{Kind: WPick, Node: 2, N: 5}), Told{Did: true, Events: want})
	mails := w.Mail()
	same(t, []any{len(mails), mails[0].From, mails[0].To, string(mails[0].Data), mails[1].From, mails[1].To, string(mails[1].Data)}, "[2 2 3 to 3 2 1 to 1]")
	// What a step told counts also where it wasn't one.
	l[1].pick = func(int) ([]node.Event, bool) { return []node.Event{{Kind: node.ESync, Number: 7}}, false }
	same(t, w.Do(Act{Kind: WPick, Node: 2, N: 5}), Told{Events: []Event{{Kind: node.ESync, Node: 2, Number: 7}}})
}

// Of each reply, by an event and by a call: whether the operation is answered.
func TestP15_4_EachReply(t *testing.T) {
	for code := 0; code <= 11; code++ {
		for _, refused := range []bool{false, true} {
			w, l, _ := faked(t, 2)
			r := api.Reply{Code: code, Value: "r"}
			l[0].call = func(node.Call) (api.Reply, bool) { return r, !refused }
			l[0].pick = func(int) ([]node.Event, bool) { return []node.Event{{Kind: node.EReply, Number: 1, Reply: r}}, true }
			back := []Event{{Kind: EBack, Node: 1, Client: 3, Reply: r}}
			x := w.Do(Act{Kind: WCall, Client: 3, Node: 1, Op: api.OpDelete, Key: "a"})
			if !refused {
				same(t, x, Told{Did: true})
				x = w.Do(Act{Kind: WPick, Node: 1, N: 1})
			}
			same(t, x, Told{Did: true, Events: back})
			answered := slices.Contains([]int{api.RDone, api.RNone, api.ROther, api.ROld, api.RFull, api.RLimit}, code)
			want := api.Op{Client: 3, Seq: 1, Kind: api.OpDelete, Key: "a", Call: 1}
			if answered {
				want.Back, want.Reply = w.Now(), r
			}
			same(t, w.History(), []api.Op{want})
			// In no case a call is out: the reply comes once.
			l[0].pick = func(int) ([]node.Event, bool) { return []node.Event{{Kind: node.EReply, Number: 1, Reply: r}}, true }
			same(t, w.Do(Act{Kind: WPick, Node: 1, N: 1}), Told{Did: true})
			if x := w.Do(Act{Kind: WGive, Client: 3}); x.Did == answered {
				t.Errorf("%d: %v", code, x)
			}
		}
	}
}

// The calls' IDs rise by one through the whole world, also where nobody was asked, or the call was refused.
func TestP15_4_IDs(t *testing.T) {
	w, l, log := faked(t, 3)
	l[1].down = true
	put := func(client, id int) Act {
		return Act{Kind: WCall, Client: client, Node: id, Op: api.OpPut, Key: "k", Value: "v", Old: "o"}
	}
	w.Do(put(1, 1))
	w.Do(put(2, 2))                                                                   // 2: it isn't up
	w.Do(Act{Kind: WAgain, Client: 2, Node: 3})                                       // 3
	w.Do(put(1, 1))                                                                   // an error: none
	w.Do(Act{Kind: WAgain, Client: 1, Node: 4})                                       // an error: none
	w.Do(Act{Kind: WCall, Client: 3, Node: 1, Op: 1, Key: "r", Value: "v", Old: "o"}) // 4
	w.Do(Act{Kind: WAgain, Client: 1, Node: 3})                                       // 5
	same(t, strings.Join(*log, "; "), "1 call {1 {2 1 1 k v o}}; 3 call {3 {2 2 1 k v o}}; 1 call {4 {1 0 0 r  }}; 3 call {5 {2 1 1 k v o}}")
	reply := func(id, number int) Told {
		l[id-1].pick = func(int) ([]node.Event, bool) {
			return []node.Event{{Kind: node.EReply, Number: number, Reply: api.Reply{Code: api.RNone}}}, true
		}
		return w.Do(Act{Kind: WPick, Node: id, N: 1})
	}
	same(t, reply(1, 1), Told{Did: true}) // out no more
	same(t, reply(1, 2), Told{Did: true}) // never out
	same(t, reply(1, 4), Told{Did: true, Events: []Event{{Kind: EBack, Node: 1, Client: 3, Reply: api.Reply{Code: api.RNone}}}})
	same(t, reply(3, 5), Told{Did: true, Events: []Event{{Kind: EBack, Node: 3, Client: 1, Reply: api.Reply{Code: api.RNone}}}})
	same(t, reply(3, 3), Told{Did: true, Events: []Event{{Kind: EBack, Node: 3, Client: 2, Reply: api.Reply{Code: api.RNone}}}})
}

// A round's order: ticks, then picks of each node by kind, each until it does nothing; then the mail that is there.
func TestP15_5_Order(t *testing.T) {
	w, l, log := faked(t, 4)
	l[1].over = true
	w.sites[3].crashed = true
	left := map[string]int{"1 4": 2, "1 9": 1, "3 1": 1, "3 9": 2}
	for _, f := range l {
		f.pick = func(kind int) ([]node.Event, bool) {
			key := fmt.Sprint(f.id, kind)
			if left[key] == 0 {
				return nil, false
			}
			left[key]--
			if kind == node.PSend {
				return []node.Event{{Kind: node.ESend, Number: 4 - f.id, Data: []byte{byte('a' + left[key])}}}, true
			}
			return nil, true
		}
	}
	x := w.Do(Act{Kind: WCalm, Node: 3, N: 1})
	same(t, x, Told{Did: true, Events: []Event{{Kind: node.ESend, Node: 1, Number: 3}, {Kind: node.ESend, Node: 3, Number: 1}, {Kind: node.ESend, Node: 3, Number: 1}}})
	sweep := func(id int, again ...int) []string {
		var l []string
		for kind := 1; kind <= 9; kind++ {
			l = append(l, fmt.Sprint(id, " pick ", kind))
			for _, k := range again {
				if k == kind {
					l = append(l, fmt.Sprint(id, " pick ", kind))
				}
			}
		}
		return l
	}
	want := slices.Concat([]string{"1 tick 56", "3 tick 0"}, sweep(1, 4, 4, 9), sweep(3, 1, 9, 9), []string{"3 deliver a", "1 deliver b", "1 deliver a"}, sweep(1), sweep(3))
	same(t, strings.Join(*log, "; "), strings.Join(want, "; "))
}

// The quick one needn't be up; each round has its ticks.
func TestP15_5_Rounds(t *testing.T) {
	w, l, log := faked(t, 3)
	l[1].down = true
	for _, rounds := range []int{1, 2, 200} {
		*log = nil
		same(t, w.Do(Act{Kind: WCalm, Node: 2, N: rounds}), Told{Did: true})
		same(t, strings.Count(strings.Join(*log, ";"), "tick 56"), 2*rounds)
		same(t, len(*log), (2+2*9)*rounds)
	}
	for _, rounds := range []int{0, -1, 201, math.MaxInt, math.MinInt} {
		*log = nil
		same(t, w.Do(Act{Kind: WCalm, Node: 1, N: rounds}), Told{Err: api.ErrRange})
		same(t, w.Do(Act{Kind: WCalm, Node: 4, N: rounds}), Told{Err: api.ErrNone})
		same(t, len(*log), 0)
	}
}

// A pick that always does something is made 10000 times in a sweep; 50 sweeps are made.
func TestP15_5_Bounds(t *testing.T) {
	w, l, log := faked(t, 1)
	count := map[int]int{}
	l[0].pick = func(kind int) ([]node.Event, bool) {
		count[kind]++
		*log = nil
		return nil, kind == node.PCall
	}
	w.Do(Act{Kind: WCalm, Node: 1, N: 1})
	for kind := node.PNotice; kind <= node.PSend; kind++ {
		want := 50
		if kind == node.PCall {
			want = 50 * 10000
		}
		same(t, count[kind], want)
	}
	same(t, len(count), 9)
	// So it is where each sweep does but little; a mail alone is something, too.
	for _, what := range []int{node.PNotice, node.PSend} {
		clear(count)
		l[0].pick = func(kind int) ([]node.Event, bool) {
			count[kind]++
			return nil, kind == what && count[kind]%2 == 1
		}
		w.Do(Act{Kind: WCalm, Node: 1, N: 2})
		same(t, []int{count[what], count[node.PInbox]}, []int{200, 100})
	}
}

// A sweep that finds nothing but mail does something: another one follows.
func TestP15_5_MailAlone(t *testing.T) {
	w, _, log := faked(t, 2)
	w.net.Send(1, 2, []byte("m"))
	w.net.Send(2, 1, []byte("n"))
	w.Do(Act{Kind: WCalm, Node: 1, N: 1})
	same(t, len(*log), 2+18+2+18)
	same(t, (*log)[20:22], "[2 deliver m 1 deliver n]")
	// Also where its node isn't up: it is lost then.
	*log = nil
	w.sites[1].crashed = true
	w.net.Send(1, 2, []byte("m"))
	w.Do(Act{Kind: WCalm, Node: 1, N: 1})
	same(t, len(*log), 1+9+9)
	same(t, w.Mail(), "[]")
}

// A node that goes down amid a sweep is asked for nothing that could be told.
func TestP15_5_DownAmidASweep(t *testing.T) {
	w, l, log := faked(t, 2)
	l[0].pick = func(kind int) ([]node.Event, bool) {
		if l[0].down || kind != node.PSync {
			return nil, false
		}
		l[0].down = true
		return []node.Event{{Kind: node.EDown}}, true
	}
	x := w.Do(Act{Kind: WCalm, Node: 1, N: 2})
	same(t, x, Told{Did: true, Events: []Event{{Kind: node.EDown, Node: 1}}})
	all := strings.Join(*log, ";")
	same(t, []int{strings.Count(all, "1 pick 1"), strings.Count(all, "1 tick"), strings.Count(all, "2 tick"), strings.Count(all, "2 pick 1")}, []int{1, 1, 2, 3})
}
