package core_test

import (
	"testing"

	"synod/api"
	"synod/core"
)

func TestP10_6_ExampleOfOneNode(t *testing.T) {
	c, e := core.New(core.Opts{1, 1, 10, 1, 8, 4, 4, 100}, api.State{}, api.Snap{}, nil, 0)
	is(t, e, api.OK)
	k := kit{t, c}
	k.tick(9)
	k.status("follower t0 v0 of 0; 9/10; c0 a0 l0")
	k.tick(1)
	k.status("leader t1 v1 of 1; 0/10; c0 a0 l1")
	k.work("#1; state 1 1 0; write 1/1")
	k.propose("a", 2, 1)
	is(t, c.Read(7), api.ErrEarly)
	k.synced(1)
	k.work("#2; state 1 1 1; write 2/1=a; apply 1/1")
	is(t, c.Read(7), api.OK)
	k.synced(2)
	k.work("#3; state 1 1 2; apply 2/1=a; reads 7@1")
	k.synced(3)
	is(t, c.Synced(3), api.ErrRange)
	k.work("")
}

func TestP10_6_ExampleOfThree(t *testing.T) {
	k := blank(t, 1, 3)
	k.tick(10)
	k.work("#1; state 1 1 0; after Vote 1>2 t1, Vote 1>3 t1")
	k.step(voteYes(3, 1, 1))
	k.work("#2; write 1/1; now App 1>2 t1 [1/1], App 1>3 t1 [1/1]")
	k.synced(2)
	k.step(appYes(2, 1, 1, 1))
	k.work("#3; state 1 1 1; now App 1>2 t1 i1 l1 c1; apply 1/1")
	is(t, k.c.Read(5), api.OK)
	k.work("now Beat 1>2 t1 c1 x1, Beat 1>3 t1 x1")
	k.step(beatAns(3, 1, 1, 1))
	k.work("now App 1>3 t1 c1 [1/1]; reads 5@1")
	k.step(vote(2, 1, 3, 9, 2))
	k.work("#4; state 3 2 1; after VoteAns 1>2 t3")
	is(t, k.c.Step(voteYes(2, 2, 3)), api.ErrMessage)
	_, _, e := k.c.Propose([]byte("x"))
	is(t, e, api.ErrLead)
}
