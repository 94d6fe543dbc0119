package holds_test

import (
	"testing"

	"holds/api"
	"holds/holds"
)

func TestP3New(t *testing.T) {
	k := holds.New()
	for p := 1; p < api.MaxProcs; p++ {
		is(t, "Kill", k.Kill(p), api.ErrProc, 0)
	}
	for fd := range api.MaxFds {
		is(t, "Close", k.Close(0, fd), api.ErrFd, 0)
	}
	for file := range api.MaxFiles {
		runsAre(t, k, file)
	}
	is(t, "Kill", k.Kill(0), api.OK, 0)
}

func TestP3ForkTakesTheLeastNumber(t *testing.T) {
	k := family(api.MaxProcs)
	is(t, "Fork of a full house", k.Fork(0), api.ErrFull, 0)
	for _, p := range []int{4, 0, 2} {
		is(t, "Kill", k.Kill(p), api.OK, 0)
	}
	is(t, "Fork of one that is gone", k.Fork(0), api.ErrProc, 0)
	for _, p := range []int{0, 2, 4} {
		is(t, "Fork", k.Fork(5), api.OK, p)
	}
	is(t, "Fork of a full house", k.Fork(5), api.ErrFull, 0)
}

func TestP3ForkHasDescriptorsAndNoLocks(t *testing.T) {
	k := holds.New()
	k.Open(0, 0)
	k.Open(0, 1)
	k.Open(0, 2)
	k.Close(0, 1)
	k.Lock(0, 0, alone, 0, 5, false)
	is(t, "Fork", k.Fork(0), api.OK, 1)
	runsAre(t, k, 0, api.Run{Proc: 0, Kind: alone, From: 0, To: 4})
	is(t, "Test of the child", k.Test(1, 0, shared, 4, 1), api.OK, 0)
	is(t, "Lock of the child", k.Lock(1, 2, alone, 7, 1, false), api.OK, 0)
	runsAre(t, k, 2, api.Run{Proc: 1, Kind: alone, From: 7, To: 7})
	is(t, "Close of what the parent closed", k.Close(1, 1), api.ErrFd, 0)
	is(t, "Open of the child", k.Open(1, 1), api.OK, 1)
	is(t, "the parent has it not", k.Close(0, 1), api.ErrFd, 0)
	is(t, "Close of the child", k.Close(1, 0), api.OK, 0)
	runsAre(t, k, 0, api.Run{Proc: 0, Kind: alone, From: 0, To: 4})
	is(t, "the parent has it still", k.Dup(0, 0), api.OK, 1)
}

func TestP3KillTakesLocksAndDescriptors(t *testing.T) {
	k := holds.New()
	for file := range api.MaxFiles {
		k.Open(0, file)
	}
	k.Fork(0)
	for fd := range api.MaxFiles {
		k.Lock(0, fd, alone, 0, 5, false)
		k.Lock(1, fd, alone, 5, 5, false)
	}
	is(t, "Kill", k.Kill(0), api.OK, 0)
	for file := range api.MaxFiles {
		runsAre(t, k, file, api.Run{Proc: 1, Kind: alone, From: 5, To: 9})
	}
	is(t, "Open", k.Open(0, 0), api.ErrProc, 0)
	is(t, "Close", k.Close(1, 1), api.OK, 0)
	is(t, "Fork", k.Fork(1), api.OK, 0)
	is(t, "nothing is left of the one ahead", k.Close(0, 1), api.ErrFd, 0)
	is(t, "Kill", k.Kill(0), api.OK, 0)
	is(t, "Kill", k.Kill(1), api.OK, 0)
	for p := range api.MaxProcs {
		is(t, "Fork of nobody", k.Fork(p), api.ErrProc, 0)
	}
}

func TestP3KillAndOpenings(t *testing.T) {
	k := holds.New()
	for file := range api.MaxFiles {
		k.Open(0, file)
		k.Whole(0, file, alone, false)
	}
	is(t, "Fork", k.Fork(0), api.OK, 1)
	k.Close(1, 2)
	k.Open(1, 0)
	is(t, "Kill", k.Kill(0), api.OK, 0)
	holdsAre(t, k, 0, hold(alone, 1))
	holdsAre(t, k, 1, hold(alone, 1))
	holdsAre(t, k, 2)
	is(t, "Whole of another opening", k.Whole(1, 2, shared, false), api.ErrBusy, 0)
	is(t, "Fork", k.Fork(1), api.OK, 0)
	holdsAre(t, k, 0, hold(alone, 0, 1))
	is(t, "the child lets it go", k.Whole(0, 0, free, false), api.OK, 0)
	is(t, "Whole of another opening", k.Whole(1, 2, shared, false), api.OK, 0)
	is(t, "Kill", k.Kill(1), api.OK, 0)
	is(t, "Kill", k.Kill(0), api.OK, 0)
	for file := range api.MaxFiles {
		holdsAre(t, k, file)
	}
}
