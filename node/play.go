package node

import (
	"synod/api"
	"synod/disk"
)

// The kinds of acts.
const (
	ADeliver = 1
	ATick    = 2
	ACall    = 3
	APick    = 4
	AStop    = 5
)

// Act is what is done to a node.
type Act struct {
	Kind, N int
	Data    []byte
	Call    Call
}

// Told is what an act told.
type Told struct {
	Did    bool
	Reply  api.Reply
	Events []Event
}

// Do does an act.
func Do(n *Node, a Act) Told {
	var t Told
	switch a.Kind {
	case ADeliver:
		t.Did = n.Deliver(a.Data)
	case ATick:
		t.Did = n.Tick(a.N)
	case ACall:
		t.Reply, t.Did = n.Call(a.Call)
	case APick:
		t.Events, t.Did = n.Pick(a.N)
	case AStop:
		t.Did = n.open()
		n.Stop()
	}
	return t
}

// Play does acts to a node of these files.
func Play(o Opts, files []api.File, draw int, acts []Act) ([]Told, []api.File, api.Errno) {
	d, err := disk.Load(files)
	if err != api.OK {
		return nil, nil, err
	}
	n, err := Open(o, d, draw)
	if err != api.OK {
		return nil, nil, err
	}
	var told []Told
	for _, a := range acts {
		told = append(told, Do(n, a))
	}
	return told, d.Files(), api.OK
}
