package run_test

import (
	"fmt"
	"math/rand/v2"
	"slices"
	"testing"

	"synod/api"
	"synod/core"
	"synod/disk"
	"synod/node"
)

// tale is what was done to a node by hand, and what came of it.
type tale struct {
	o     node.Opts
	files []api.File // of its disk, at first
	draw  int
	acts  []node.Act
	told  []node.Told
	left  []api.File // of its disk, at last
}

// site is a node that is picked by hand, and its tale.
type site struct {
	tale
	n *node.Node
	d *disk.Disk
}

func (s *site) do(a node.Act) node.Told {
	told := node.Do(s.n, a)
	s.acts, s.told = append(s.acts, a), append(s.told, told)
	return told
}

// cluster is sites, and mail between them.
type cluster struct {
	r     *rand.Rand
	sites []*site
	mail  []letter
	quick int // who stands early
	calls int
}

type letter struct {
	to   int
	data []byte
}

// someOpts are options of which little is held back, without an id.
func someOpts(r *rand.Rand) node.Opts {
	n := func(most int) int { return 1 + r.IntN(most) }
	return node.Opts{
		Core: core.Opts{
			Nodes: []int{1, 2, 3, 3, 5}[r.IntN(5)], Election: 3 + n(4), Beat: n(2),
			Batch: n(5), Window: n(3), Reads: n(4), Pending: 3 + n(9),
		},
		Every: r.IntN(6), Keep: r.IntN(4), Segment: []int{64, 200, 4096}[r.IntN(3)],
		Inbox: n(6), Ticks: n(3), Calls: n(3), Jobs: n(4), Applies: n(4), Out: 1 + n(8),
	}
}

// someFiles are none, or so many that the disk is full soon.
func someFiles(r *rand.Rand) []api.File {
	if r.IntN(6) > 0 {
		return nil
	}
	return crowd(api.MaxFiles - 1 - r.IntN(5))
}

// tales is what happens in a cluster that is picked by hand for so many steps.
func tales(t *testing.T, seed uint64, steps int) []tale {
	t.Helper()
	c := cluster{r: rand.New(rand.NewPCG(seed, 13)), quick: 1}
	o := someOpts(c.r)
	for id := 1; id <= o.Core.Nodes; id++ {
		o.Core.ID = id
		s := &site{tale: tale{o: o, files: someFiles(c.r), draw: c.r.IntN(9)}}
		s.open(t)
		c.sites = append(c.sites, s)
	}
	for range steps {
		c.step()
	}
	var l []tale
	for _, s := range c.sites {
		s.left = s.d.Files()
		l = append(l, s.tale)
	}
	return l
}

func (s *site) open(t *testing.T) {
	t.Helper()
	var e, f api.Errno
	s.d, e = disk.Load(s.files)
	s.n, f = node.Open(s.o, s.d, s.draw)
	if e != api.OK || f != api.OK {
		t.Fatalf("no node: %d, %d", e, f)
	}
}

// step lets something happen.
func (c *cluster) step() {
	r := c.r
	s := c.sites[r.IntN(len(c.sites))]
	switch k := r.IntN(1000); {
	case k < 250:
		c.deliver()
	case k < 300:
		draw := 8 * s.o.Core.Election
		if s.o.Core.ID == c.quick {
			draw = r.IntN(3)
		}
		s.do(ticked(draw))
	case k < 360:
		c.call(s)
	case k < 480:
		for kind := 1; kind < 10; kind++ {
			for c.pick(s, kind) {
			}
		}
	case k < 483:
		c.quick = 1 + r.IntN(len(c.sites))
	case k < 484 && r.IntN(3) == 0:
		s.do(stopped())
	case k < 490:
		s.do(c.odd())
	default:
		c.pick(s, r.IntN(11))
	}
}

// pick does a pick; what is sent is mail.
func (c *cluster) pick(s *site, kind int) bool {
	told := s.do(picked(kind))
	for _, e := range told.Events {
		if e.Kind == node.ESend {
			c.mail = append(c.mail, letter{e.Number, e.Data})
		}
	}
	return told.Did
}

func (c *cluster) deliver() {
	if len(c.mail) == 0 {
		return
	}
	i := c.r.IntN(min(3, len(c.mail)))
	x := c.mail[i]
	c.mail = slices.Delete(c.mail, i, i+1)
	if c.r.IntN(100) == 0 {
		x.data = slices.Clone(x.data)
		x.data[c.r.IntN(len(x.data))] ^= 1
	}
	c.sites[x.to-1].do(node.Act{Kind: node.ADeliver, Data: x.data})
}

// call asks a node that leads, or another one.
func (c *cluster) call(s *site) {
	for _, x := range c.sites {
		if x.n.View().Core.Role == api.Leader && c.r.IntN(4) > 0 {
			s = x
		}
	}
	c.calls++
	key := fmt.Sprint("k", c.r.IntN(3))
	if c.r.IntN(3) == 0 {
		s.do(called(gets(c.calls, key)))
		return
	}
	s.do(called(puts(c.calls, key, fmt.Sprint("v", c.calls))))
}

// odd is an act with something wrong in it.
func (c *cluster) odd() node.Act {
	wrong := slices.Concat(far(), []int{0, 6, 10})
	n := wrong[c.r.IntN(len(wrong))]
	return []node.Act{
		{Kind: n, N: node.PTick, Data: []byte("x"), Call: gets(1, "a")},
		{Kind: node.APick, N: n},
		{Kind: node.ATick, N: n},
		{Kind: node.ACall, Call: node.Call{ID: n, Command: api.Command{Op: n, Key: "a"}}},
		{Kind: node.ADeliver, Data: []byte("no frame")},
		{Kind: node.ADeliver},
		{Kind: node.APick, N: node.PWrite, Data: []byte("x"), Call: gets(1, "a")},
	}[c.r.IntN(7)]
}

// counted is how often which kind of event was told.
func counted(l []tale) [node.EEnd + 1]int {
	var n [node.EEnd + 1]int
	for _, x := range l {
		for _, told := range x.told {
			for _, e := range told.Events {
				n[e.Kind]++
			}
		}
	}
	return n
}

// enough tells whether the tales have enough of everything in them.
func enough(t *testing.T, l []tale, least, leastDown int) {
	t.Helper()
	n := counted(l)
	for kind := node.ESend; kind <= node.EEnd; kind++ {
		if kind != node.EDown && n[kind] < least || n[node.EDown] < leastDown {
			t.Errorf("events of each kind: %v", n)
		}
	}
}

// manyTales is the tales of some clusters.
func manyTales(t *testing.T, first uint64, clusters, steps int) []tale {
	t.Helper()
	var l []tale
	for seed := range uint64(clusters) {
		l = append(l, tales(t, first+seed, steps)...)
	}
	return l
}
