package shell_test

import (
	"math"
	"slices"
	"strings"
	"testing"

	"synod/api"
	"synod/core"
	"synod/node"
	"synod/shell"
	"synod/text"
	"synod/world"
)

// put is a call with a value of so many bytes: its line is so much longer than one with none would be.
func put(size int) world.Act {
	return world.Act{Kind: world.WCall, Client: 1, Node: 1, Op: api.OpPut, Key: "k", Value: strings.Repeat("v", size)}
}

func TestP18_3_Format(t *testing.T) {
	formats(t, shell.Script{}, "world 0 0 0 0 0 0 0 0 0 0 0 0 0 0 0 0 0 0\n")
	formats(t, shell.Script{Opts: oneOpts()}, one+"\n")
	formats(t, shell.Script{
		Opts: oneOpts(),
		Acts: []world.Act{
			{Kind: world.WCall, Client: 1, Node: 2, Op: api.OpSwap, Key: "k", Value: "new", Old: "o d"},
			{Kind: world.WCall, Client: 1, Node: 2, Op: api.OpGet, Key: "#"},
			{Kind: world.WLink, Node: 1, N: 2, M: 1}, {Kind: world.WPick, Node: -1, N: 9}, {Kind: world.WCalm, N: 1 << 62}, give(3),
		},
	}, one+`
swap 1 2 k "o d" new
get 1 2 "#"
link 1 2
pick -1 send
calm 0 4611686018427387904
give 3
`)
	// Options of any numbers have a line: chapter 17 has no error for them.
	o := world.Opts{Nodes: math.MinInt, Clients: math.MaxInt, Node: node.Opts{Core: core.Opts{ID: 3, Nodes: 4, Election: -1}}}
	formats(t, shell.Script{Opts: o}, "world -9223372036854775808 9223372036854775807 -1 0 0 0 0 0 0 0 0 0 0 0 0 0 0 0\n")
}

// Lines are not looked at.
func TestP18_3_Lines(t *testing.T) {
	for _, l := range [][]int{nil, {}, {1}, {7, 3, 3}, {-1, math.MaxInt, 0, 9}, make([]int, api.MaxActs+1)} {
		formats(t, shell.Script{Opts: oneOpts(), Lines: l}, one+"\n")
		formats(t, shell.Script{Opts: oneOpts(), Acts: []world.Act{give(1), give(2)}, Lines: l}, lines(one, "give 1", "give 2"))
	}
}

// The first act's error that has one.
func TestP18_3_Errors(t *testing.T) {
	wrong := []world.Act{
		{}, {Kind: world.WCalm + 1}, {Kind: world.WCall, Op: 5}, {Kind: world.WGive, N: 1}, {Kind: world.WPick, N: 10},
		{Kind: world.WTick, N: 1<<62 + 1}, {Kind: world.WLink, M: 2}, put(api.MaxLine),
	}
	for _, a := range wrong {
		_, want := text.FormatAct(a)
		unformatted(t, shell.Script{Opts: oneOpts(), Acts: []world.Act{a}}, want)
		unformatted(t, shell.Script{Acts: []world.Act{give(1), a, give(2)}, Lines: []int{1}}, want)
		for _, b := range wrong {
			unformatted(t, shell.Script{Acts: []world.Act{a, give(1), b}}, want)
		}
	}
}

func TestP18_3_Many(t *testing.T) {
	s := shell.Script{Opts: oneOpts(), Acts: slices.Repeat([]world.Act{give(1)}, api.MaxActs)}
	formats(t, s, one+"\n"+strings.Repeat("give 1\n", api.MaxActs))
	s.Acts = append(s.Acts, give(1))
	unformatted(t, s, api.ErrMany)
	// Ahead of the acts' errors, and of the length.
	s.Acts[0] = world.Act{}
	unformatted(t, s, api.ErrMany)
	s.Acts[0] = put(api.MaxLine)
	unformatted(t, s, api.ErrMany)
	unformatted(t, shell.Script{Acts: slices.Repeat([]world.Act{put(4000)}, api.MaxActs+1)}, api.ErrMany)
	s.Acts = s.Acts[:api.MaxActs]
	unformatted(t, s, api.ErrLong)
	s.Acts[0] = world.Act{}
	unformatted(t, s, api.ErrKind)
}

// acts are such whose script has so many bytes.
func actsOf(size int) shell.Script {
	s := shell.Script{Opts: oneOpts()}
	const head = len("put 1 1 k \n")
	for left := size - len(one) - 1; left > 0; {
		n := min(left, 4000)
		if rest := left - n; rest > 0 && rest < head+9 {
			n -= head + 9
		}
		s.Acts = append(s.Acts, put(n-head))
		left -= n
	}
	return s
}

// A text of MaxScript bytes may be; one more is too long, but behind all acts' errors.
func TestP18_3_Long(t *testing.T) {
	for _, size := range []int{5000, api.MaxScript - 1, api.MaxScript} {
		have, e := shell.Format(actsOf(size))
		if len(have) != size || e != api.OK {
			t.Errorf("%d: %d bytes, %d", size, len(have), e)
		}
	}
	for _, size := range []int{api.MaxScript + 1, api.MaxScript + 2, 4 * api.MaxScript} {
		s := actsOf(size)
		unformatted(t, s, api.ErrLong)
		s.Acts = append(s.Acts, world.Act{Kind: world.WGive, N: 1})
		unformatted(t, s, api.ErrForm)
	}
	unformatted(t, shell.Script{Acts: slices.Repeat([]world.Act{put(4000)}, api.MaxActs)}, api.ErrLong)
}
