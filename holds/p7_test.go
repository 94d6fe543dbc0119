package holds_test

import (
	"testing"

	"holds/api"
	"holds/holds"
)

func TestP7InTurn(t *testing.T) {
	k := apart(6)
	k.Lock(0, 0, alone, 5, 1, false)
	k.Lock(3, 0, shared, 5, 1, true)
	k.Lock(1, 0, shared, 4, 2, true)
	k.Lock(2, 0, alone, 5, 1, true)
	k.Lock(5, 0, shared, 5, 1, true)
	k.Lock(4, 0, shared, 20, 1, true)
	waitingAre(t, k, 3, 1, 2, 5)
	is(t, "Free elsewhere", k.Lock(0, 0, free, 6, 0, false), api.OK, 0)
	is(t, "Free", k.Lock(0, 0, free, 0, 0, false), api.OK, 0, done(3, api.OK), done(1, api.OK))
	waitingAre(t, k, 2, 5)
	is(t, "Free by one of two", k.Lock(1, 0, free, 5, 1, false), api.OK, 0)
	is(t, "Kill of the other one", k.Kill(3), api.OK, 0, done(2, api.OK))
	waitingAre(t, k, 5)
	is(t, "less", k.Lock(2, 0, shared, 5, 1, false), api.OK, 0, done(5, api.OK))
	runsAre(t, k, 0,
		api.Run{Proc: 1, Kind: shared, From: 4, To: 4}, api.Run{Proc: 2, Kind: shared, From: 5, To: 5},
		api.Run{Proc: 5, Kind: shared, From: 5, To: 5}, api.Run{Proc: 4, Kind: shared, From: 20, To: 20})
}

// What 1 gets is less than it had: so 2, who asked first, goes on behind it and ahead of 3.
func TestP7FromTheBeginning(t *testing.T) {
	k := apart(4)
	k.Lock(0, 0, alone, 6, 1, false)
	k.Lock(1, 0, alone, 5, 1, false)
	is(t, "Lock", k.Lock(2, 0, shared, 5, 1, true), api.Pending, 0)
	is(t, "Lock", k.Lock(1, 0, shared, 5, 2, true), api.Pending, 0)
	is(t, "Lock", k.Lock(3, 0, shared, 6, 1, true), api.Pending, 0)
	is(t, "Free", k.Lock(0, 0, free, 6, 1, false), api.OK, 0, done(1, api.OK), done(2, api.OK), done(3, api.OK))
}

// Who goes on has its lock when the next one is looked at.
func TestP7OneAloneAtATime(t *testing.T) {
	k := apart(4)
	for _, kind := range []int{alone, shared} {
		k.Lock(0, 0, kind, 0, 0, false)
		for p := 1; p < 4; p++ {
			is(t, "Lock", k.Lock(p, 0, alone, 10*p, 15, true), api.Pending, 0)
		}
		is(t, "Free", k.Lock(0, 0, free, 0, 0, false), api.OK, 0, done(1, api.OK))
		is(t, "Free", k.Lock(1, 0, free, 0, 0, false), api.OK, 0, done(2, api.OK))
		is(t, "Free", k.Lock(2, 0, free, 0, 0, false), api.OK, 0, done(3, api.OK))
		k.Lock(3, 0, free, 0, 0, false)
		runsAre(t, k, 0)
	}
}

// 1 would make a run too many, 3 makes one longer. Who got ErrTable is out of the way of the next one.
func TestP7TooManyRuns(t *testing.T) {
	k := apart(4)
	k.Lock(0, 0, alone, 39, 2, false)
	k.Lock(3, 0, shared, 41, 1, false)
	for i := range api.MaxRuns - 2 {
		k.Lock(2, 0, shared, 2*i, 1, false)
	}
	is(t, "Lock", k.Lock(1, 0, alone, 40, 1, true), api.Pending, 0)
	is(t, "Lock", k.Lock(3, 0, shared, 40, 1, true), api.Pending, 0)
	before := len(k.Runs(0))
	is(t, "Free", k.Lock(0, 0, free, 40, 1, false), api.OK, 0, done(1, api.ErrTable), done(3, api.OK))
	waitingAre(t, k)
	list := k.Runs(0)
	if len(list) != before || list[len(list)-1] != (api.Run{Proc: 3, Kind: shared, From: 40, To: 41}) {
		t.Errorf("runs: %v", list)
	}
	is(t, "1 waits no more", k.Lock(1, 0, alone, 50, 1, true), api.ErrTable, 0)
}

// lonely has a process 0 with the whole file 0 Alone by its first opening, and with a second one; its child 1 could let that lock go; 2 and 3 have openings of their own.
func lonely() *holds.Kernel {
	k := apart(4)
	k.Kill(1)
	k.Fork(0)
	k.Open(0, 0)
	k.Whole(0, 0, alone, false)
	return k
}

// Who waits behind one that is stuck is stuck with it: it asked last, so it is told first.
func TestP7TheLastThatAsked(t *testing.T) {
	k := lonely()
	is(t, "Whole", k.Whole(0, 1, shared, true), api.Pending, 0)
	is(t, "Whole", k.Whole(2, 0, alone, true), api.Pending, 0)
	is(t, "Kill", k.Kill(1), api.OK, 0, done(2, api.ErrDeadlock), done(0, api.ErrDeadlock))
	waitingAre(t, k)
	holdsAre(t, k, 0, hold(alone, 0))
}

// One of the circle goes on without the others, and they wait no longer without end.
func TestP7NoMoreThanNeeded(t *testing.T) {
	k := lonely()
	k.Lock(2, 0, alone, 3, 1, false)
	is(t, "Whole", k.Whole(2, 0, shared, true), api.Pending, 0)
	is(t, "Lock", k.Lock(0, 0, alone, 3, 1, true), api.Pending, 0)
	is(t, "Kill", k.Kill(1), api.OK, 0, done(0, api.ErrDeadlock))
	waitingAre(t, k, 2)
	is(t, "Free", k.Whole(0, 0, free, false), api.OK, 0, done(2, api.OK))
}

// Two circles close by one Kill: the greatest set has both.
func TestP7TwoCirclesAtOnce(t *testing.T) {
	k := holds.New()
	k.Open(0, 0)
	k.Open(0, 1)
	k.Fork(0)
	k.Fork(0)
	k.Close(1, 0)
	k.Close(0, 1)
	k.Open(1, 1)
	k.Open(0, 0)
	k.Whole(0, 0, alone, false)
	k.Whole(1, 1, alone, false)
	is(t, "Whole", k.Whole(1, 0, shared, true), api.Pending, 0)
	is(t, "Whole", k.Whole(0, 1, shared, true), api.Pending, 0)
	is(t, "Kill", k.Kill(2), api.OK, 0, done(0, api.ErrDeadlock), done(1, api.ErrDeadlock))
	waitingAre(t, k)
}

// The killed one's locks let 3 go on; what it could have let go leaves 0 stuck. Who can go on comes first.
func TestP7GoingOnAheadOfDeadlock(t *testing.T) {
	k := lonely()
	k.Lock(1, 0, alone, 9, 1, false)
	is(t, "Whole", k.Whole(0, 1, shared, true), api.Pending, 0)
	is(t, "Lock", k.Lock(3, 0, shared, 9, 1, true), api.Pending, 0)
	is(t, "Lock", k.Lock(2, 0, shared, 9, 1, true), api.Pending, 0)
	is(t, "Kill", k.Kill(1), api.OK, 0, done(3, api.OK), done(2, api.OK), done(0, api.ErrDeadlock))
	waitingAre(t, k)
}

func TestP7NothingBehindErrors(t *testing.T) {
	k := apart(3)
	k.Lock(0, 0, alone, 0, 1, false)
	k.Lock(1, 0, alone, 0, 1, true)
	for _, r := range []api.Reply{
		k.Fork(1), k.Fork(9), k.Kill(9), k.Open(0, 9), k.Dup(0, 9), k.Close(0, 9), k.Lock(0, 0, 9, 0, 0, true),
		k.Lock(2, 0, alone, 0, 1, false), k.Lock(0, 0, alone, 0, 1, true), k.Test(0, 0, free, 0, 0), k.Whole(0, 0, 9, true),
	} {
		if r.Err == api.OK || r.N != 0 || len(r.Done) != 0 {
			t.Errorf("an error with something else: %+v", r)
		}
	}
	is(t, "Open", k.Open(0, 0), api.OK, 1)
	is(t, "Dup", k.Dup(0, 0), api.OK, 2)
	is(t, "Fork", k.Fork(0), api.OK, 3)
	is(t, "Test", k.Test(0, 0, alone, 0, 0), api.OK, -1)
	is(t, "Pending", k.Lock(2, 0, alone, 0, 1, true), api.Pending, 0)
	waitingAre(t, k, 1, 2)
}
