package holds_test

import (
	"testing"

	"holds/api"
	"holds/holds"
)

func TestP3New(t *testing.T) {
	k := holds.New()
	for p := 1; p < api.MaxProcs; p++ {
		is(t, "Kill", k.Kill(p), api.ErrProc, 0)
	}
	for fd := range api.MaxFds {
		is(t, "Close", k.Close(0, fd), api.ErrFd, 0)
	}
	for file := range api.MaxFiles {
		runsAre(t, k, file)
	}
	is(t, "Kill", k.Kill(0), api.OK, 0)
}

func TestP3ForkTakesTheLeastNumber(t *testing.T) {
	k := family(api.MaxProcs)
	is(t, "Fork of a full house", k.Fork(0), api.ErrFull, 0)
	for _, p := range []int{4, 0, 2} {
		is(t, "Kill", k.Kill(p), api.OK, 0)
	}
	is(t, "Fork of one that is gone", k.Fork(0), api.ErrProc, 0)
	for _, p := range []int{0, 2, 4} {
		is(t, "Fork", k.Fork(5), api.OK, p)
	}
	is(t, "Fork of a full house", k.Fork(5), api.ErrFull, 0)
}

func TestP3ForkHasDescriptorsAndNoLocks(t *testing.T) {
	k := holds.New()
	k.Open(0, 0)
	k.Open(0, 1)
	k.Open(0, 2)
	k.Close(0, 1)
	k.Lock(0, 0, alone, 0, 5, false)
	is(t, "Fork", k.Fork(0), api.OK, 1)
	runsAre(t, k, 0, api.Run{Proc: 0, Kind: alone, From: 0, To: 4})
	is(t, "Test of the child", k.Test(1, 0, shared, 4, 1), api.OK, 0)
	is(t, "Lock of the child", k.Lock(1, 2, alone, 7, 1, false), api.OK, 0)
	runsAre(t, k, 2, api.Run{Proc: 1, Kind: alone, From: 7, To: 7})
	is(t, "Close of what the parent closed", k.Close(1, 1), api.ErrFd, 0)
	is(t, "Open of the child", k.Open(1, 1), api.OK, 1)
	is(t, "the parent has it not", k.Close(0, 1), api.ErrFd, 0)
	is(t, "Close of the child", k.Close(1, 0), api.OK, 0)
	runsAre(t, k, 0, api.Run{Proc: 0, Kind: alone, From: 0, To: 4})
	is(t, "the parent has it still", k.Dup(0, 0), api.OK, 1)
}

func TestP3KillTakesLocksAndDescriptors(t *testing.T) {
	k := holds.New()
	for file := range api.MaxFiles {
		k.Open(0, file)
	}
	k.Fork(0)
	for fd := range api.MaxFiles {
		k.Lock(0, fd, alone, 0, 5, false)
		k.Lock(1, fd, alone, 5, 5, false)
	}
	is(t, "Kill", k.Kill(0), api.OK, 0)
	for file := range api.MaxFiles {
		runsAre(t, k, file, api.Run{Proc: 1, Kind: alone, From: 5, To: 9})
	}
	is(t, "Open", k.Open(0, 0), api.ErrProc, 0)
	is(t, "Close", k.Close(1, 1), api.OK, 0)
	is(t, "Fork", k.Fork(1), api.OK, 0)
	is(t, "nothing is left of the one ahead", k.Close(0, 1), api.ErrFd, 0)
	is(t, "Kill", k.Kill(0), api.OK, 0)
	is(t, "Kill", k.Kill(1), api.OK, 0)
	for p := range api.MaxProcs {
		is(t, "Fork of nobody", k.Fork(p), api.ErrProc, 0)
	}
}

func TestP3KillAndOpenings(t *testing.T) {
	k := holds.New()
	for file := range api.MaxFiles {
		k.Open(0, file)
		k.Whole(0, file, alone, false)
	}
	is(t, "Fork", k.Fork(0), api.OK, 1)
	k.Close(1, 2)
	k.Open(1, 0)
	is(t, "Kill", k.Kill(0), api.OK, 0)
	holdsAre(t, k, 0, hold(alone, 1))
	holdsAre(t, k, 1, hold(alone, 1))
	holdsAre(t, k, 2)
	is(t, "Whole of another opening", k.Whole(1, 2, shared, false), api.ErrBusy, 0)
	is(t, "Fork", k.Fork(1), api.OK, 0)
	holdsAre(t, k, 0, hold(alone, 0, 1))
	is(t, "the child lets it go", k.Whole(0, 0, free, false), api.OK, 0)
	is(t, "Whole of another opening", k.Whole(1, 2, shared, false), api.OK, 0)
	is(t, "Kill", k.Kill(1), api.OK, 0)
	is(t, "Kill", k.Kill(0), api.OK, 0)
	for file := range api.MaxFiles {
		holdsAre(t, k, file)
	}
}

func TestP3ForkOfOneThatWaits(t *testing.T) {
	k := apart(api.MaxProcs)
	k.Lock(0, 0, alone, 0, 1, false)
	is(t, "Lock", k.Lock(1, 0, alone, 0, 1, true), api.Pending, 0)
	is(t, "Fork of one that waits, and of a full house", k.Fork(1), api.ErrBlocked, 0)
	is(t, "Fork of another one", k.Fork(0), api.ErrFull, 0)
	k.Kill(5)
	is(t, "Fork of one that waits", k.Fork(1), api.ErrBlocked, 0)
	is(t, "Fork of another one", k.Fork(0), api.OK, 5)
	is(t, "the child does not wait", k.Fork(5), api.ErrFull, 0)
	waitingAre(t, k, 1)
}

// What the killed one had and what it waited with are out of the way of others; it is not told itself.
func TestP3KillOfOneThatWaits(t *testing.T) {
	k := apart(4)
	k.Lock(0, 0, shared, 10, 1, false)
	k.Lock(1, 0, alone, 20, 1, false)
	k.Lock(1, 0, alone, 10, 1, true)
	k.Lock(2, 0, shared, 10, 1, true)
	k.Lock(3, 0, shared, 20, 1, true)
	waitingAre(t, k, 1, 2, 3)
	is(t, "Kill", k.Kill(1), api.OK, 0, done(2, api.OK), done(3, api.OK))
	waitingAre(t, k)
	runsAre(t, k, 0, api.Run{Proc: 0, Kind: shared, From: 10, To: 10}, api.Run{Proc: 2, Kind: shared, From: 10, To: 10}, api.Run{Proc: 3, Kind: shared, From: 20, To: 20})
	is(t, "Kill once more", k.Kill(1), api.ErrProc, 0)
	is(t, "Fork", k.Fork(0), api.OK, 1)
	is(t, "the new one does not wait", k.Dup(1, 0), api.OK, 1)
	is(t, "nor has it what the killed one asked for", k.Lock(0, 0, free, 0, 0, false), api.OK, 0)
	waitingAre(t, k)
}

func TestP3KillOfTheLastOneThatCould(t *testing.T) {
	k := holds.New()
	k.Open(0, 0)
	k.Open(0, 0)
	k.Whole(0, 0, alone, false)
	k.Fork(0)
	k.Fork(0)
	is(t, "Whole", k.Whole(0, 1, shared, true), api.Pending, 0)
	is(t, "Kill, another one is left", k.Kill(1), api.OK, 0)
	is(t, "Kill, none is left", k.Kill(2), api.OK, 0, done(0, api.ErrDeadlock))
	holdsAre(t, k, 0, hold(alone, 0))
	is(t, "Kill", k.Kill(0), api.OK, 0)
	waitingAre(t, k)
}
