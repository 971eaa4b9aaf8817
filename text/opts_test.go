package text_test

import (
	"fmt"
	"math"
	"math/rand/v2"
	"strconv"
	"strings"
	"testing"

	"synod/api"
	"synod/core"
	"synod/node"
	"synod/text"
	"synod/world"
)

// usual are options that no two numbers of are the same, and their line.
func usual() (world.Opts, string) {
	return world.Opts{Nodes: 11, Clients: 12, Node: node.Opts{
		Core:  core.Opts{Election: 13, Beat: 14, Batch: 15, Window: 16, Reads: 17, Pending: 18},
		Every: 19, Keep: 20, Segment: 21, Inbox: 22, Ticks: 23, Calls: 24, Jobs: 25, Applies: 26, Out: 27,
	}}, "world 11 12 13 14 15 16 17 18 19 20 21 22 23 24 25 26 27 0"
}

// opts holds a line against its options.
func opts(t *testing.T, line string, want world.Opts) {
	t.Helper()
	if o, e := text.ParseOpts(line); e != api.OK || o != want {
		t.Errorf("%s: have %v, %d; want %v", short(line), o, e, want)
	}
}

func TestP17_4_EachNumber(t *testing.T) {
	o, s := usual()
	opts(t, s, o)
	is(t, text.FormatOpts(o), s)
	opts(t, "world"+strings.Repeat(" 0", 18), world.Opts{})
	is(t, text.FormatOpts(world.Opts{}), "world"+strings.Repeat(" 0", 18))
	opts(t, `"world" "11" `+s[len("world 11 "):], o)
}

// Core's own id and number of nodes are the world's matter: they stand in no line.
func TestP17_4_WithoutCoresOwn(t *testing.T) {
	o, s := usual()
	for _, n := range append(far(), 1, 2) {
		o.Node.Core.ID, o.Node.Core.Nodes = n, n
		is(t, text.FormatOpts(o), s)
	}
}

func TestP17_4_FirstWord(t *testing.T) {
	_, s := usual()
	numbers := s[len("world"):]
	for _, word := range []string{"", `""`, "World", "WORLD", "worl", "worlds", "orld", "#", "tick", "1", `"world "`, `" world"`, "world,"} {
		noOpts(t, word, api.ErrWord)
		noOpts(t, word+numbers, api.ErrWord)
		noOpts(t, word+numbers+" 0", api.ErrWord)
		noOpts(t, word+" x", api.ErrWord)
	}
	for _, c := range table() {
		noOpts(t, strings.Fields(c.line)[0]+numbers, api.ErrWord)
	}
}

// Eighteen numbers, no more and no less; this is told ahead of what they are.
func TestP17_4_HowManyWords(t *testing.T) {
	for n := range 40 {
		for _, word := range []string{"0", "1", "x", "00", `""`} {
			s := "world" + strings.Repeat(" "+word, n)
			switch {
			case n != 18:
				noOpts(t, s, api.ErrWords)
			case word == "0":
				opts(t, s, world.Opts{})
			default:
				noOpts(t, s, api.ErrNumber)
			}
		}
	}
}

// Each place, with each word that is no number, and with the numbers at the edges.
func TestP17_4_NoNumber(t *testing.T) {
	o, s := usual()
	for place := 1; place <= 18; place++ {
		at := func(word string) string {
			l := strings.Fields(s)
			l[place] = word
			return strings.Join(l, " ")
		}
		for _, word := range notNumbers() {
			noOpts(t, at(word), api.ErrNumber)
		}
		for _, n := range []int{1, -1, 1 << 62, -1 << 62, 1<<62 - 1} {
			if place == 18 {
				noOpts(t, at(strconv.Itoa(n)), api.ErrNumber)
				continue
			}
			have, e := text.ParseOpts(at(strconv.Itoa(n)))
			is(t, fmt.Sprint(have, e), strings.Replace(fmt.Sprint(o, 0), strconv.Itoa(place+10), strconv.Itoa(n), 1))
		}
	}
}

// Options that may not be are read and written all the same: whether there is such a world is the world's matter.
func TestP17_4_AnyNumbers(t *testing.T) {
	r := rand.New(rand.NewPCG(17, 4))
	for range 3000 {
		l := make([]string, 18)
		n := func(i int) int {
			x := anyNumber(r)
			l[i] = strconv.Itoa(x)
			return x
		}
		l[17] = "0"
		o := world.Opts{Nodes: n(0), Clients: n(1), Node: node.Opts{
			Core:  core.Opts{Election: n(2), Beat: n(3), Batch: n(4), Window: n(5), Reads: n(6), Pending: n(7)},
			Every: n(8), Keep: n(9), Segment: n(10), Inbox: n(11), Ticks: n(12), Calls: n(13), Jobs: n(14), Applies: n(15), Out: n(16),
		}}
		s := "world " + strings.Join(l, " ")
		is(t, text.FormatOpts(o), s)
		opts(t, s, o)
	}
	o := world.Opts{Nodes: math.MinInt, Node: node.Opts{Out: math.MaxInt}}
	is(t, text.FormatOpts(o), "world -9223372036854775808"+strings.Repeat(" 0", 15)+" 9223372036854775807 0")
}
