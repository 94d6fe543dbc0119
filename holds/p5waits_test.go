package holds_test

import (
	"testing"

	"holds/api"
	"holds/holds"
)

func TestP5ExampleOfWaiting(t *testing.T) {
	k := apart(2)
	is(t, "Lock", k.Lock(0, 0, alone, 0, 10, false), api.OK, 0)
	is(t, "Lock", k.Lock(1, 0, alone, 20, 10, false), api.OK, 0)
	is(t, "Lock", k.Lock(1, 0, shared, 5, 1, true), api.Pending, 0)
	is(t, "Lock", k.Lock(0, 0, alone, 25, 1, true), api.ErrDeadlock, 0)
	waitingAre(t, k, 1)
	is(t, "Lock", k.Lock(0, 0, free, 0, 0, false), api.OK, 0, done(1, api.OK))
	waitingAre(t, k)
	runsAre(t, k, 0, api.Run{Proc: 1, Kind: shared, From: 5, To: 5}, api.Run{Proc: 1, Kind: alone, From: 20, To: 29})
}

// Each call has all the faults that come behind the one that is told.
func TestP5ErrorsAheadOfWaiting(t *testing.T) {
	k := apart(3)
	k.Lock(0, 0, alone, 0, 0, false)
	is(t, "Lock", k.Lock(1, 0, alone, 3, 1, true), api.Pending, 0)
	is(t, "Lock of one that waits", k.Lock(1, 9, 9, 99, 99, true), api.ErrBlocked, 0)
	is(t, "Free of one that waits", k.Lock(1, 0, free, 0, 0, false), api.ErrBlocked, 0)
	is(t, "Test of one that waits", k.Test(1, 9, 9, 99, 99), api.ErrBlocked, 0)
	is(t, "Lock by nobody", k.Lock(5, 0, alone, 0, 0, true), api.ErrProc, 0)
	is(t, "Lock of nothing", k.Lock(2, 1, 9, 99, 99, true), api.ErrFd, 0)
	is(t, "Lock of no kind", k.Lock(2, 0, 9, 99, 99, true), api.ErrKind, 0)
	is(t, "Lock of no range", k.Lock(2, 0, alone, 99, 99, true), api.ErrRange, 0)
	waitingAre(t, k, 1)
}

func TestP5WaitingChangesNothing(t *testing.T) {
	k := apart(3)
	k.Lock(0, 0, alone, 0, 10, false)
	k.Lock(1, 0, shared, 10, 5, false)
	before := k.Runs(0)
	is(t, "more than it has", k.Lock(1, 0, alone, 5, 8, true), api.Pending, 0)
	runsAre(t, k, 0, before...)
	is(t, "what it has is its own still", k.Lock(2, 0, alone, 13, 1, false), api.ErrBusy, 0)
	is(t, "Free", k.Lock(0, 0, free, 7, 1, false), api.OK, 0)
	waitingAre(t, k, 1)
	is(t, "Free", k.Lock(0, 0, free, 4, 6, false), api.OK, 0, done(1, api.OK))
	runsAre(t, k, 0, api.Run{Proc: 0, Kind: alone, From: 0, To: 3}, api.Run{Proc: 1, Kind: alone, From: 5, To: 12}, api.Run{Proc: 1, Kind: shared, From: 13, To: 14})
}

// Who waits is in the way of those alone whose locks bite its own. What holds it up, at position 12, is in no other's way here.
func TestP5NotAheadOfOneThatWaits(t *testing.T) {
	for _, c := range []struct {
		has, waits, asks, from, length int
		e                              api.Errno
	}{
		{alone, shared, shared, 10, 2, api.OK}, {alone, shared, alone, 10, 1, api.ErrBusy}, {alone, shared, alone, 9, 1, api.OK},
		{shared, alone, shared, 10, 1, api.ErrBusy}, {shared, alone, shared, 0, 0, api.ErrBusy}, {shared, alone, alone, 14, 1, api.ErrBusy},
		{shared, alone, alone, 15, 1, api.OK}, {shared, alone, alone, 9, 1, api.OK}, {shared, alone, free, 0, 0, api.OK},
	} {
		k := apart(3)
		k.Lock(0, 0, c.has, 12, 1, false)
		is(t, "Lock that waits", k.Lock(1, 0, c.waits, 10, 5, true), api.Pending, 0)
		is(t, "Lock behind it", k.Lock(2, 0, c.asks, c.from, c.length, false), c.e, 0)
		if c.e == api.ErrBusy {
			is(t, "Lock that waits behind it", k.Lock(2, 0, c.asks, c.from, c.length, true), api.Pending, 0)
			waitingAre(t, k, 1, 2)
		}
	}
}

func TestP5WaitingOfOtherFilesAndSorts(t *testing.T) {
	k := apart(3)
	k.Open(2, 1)
	k.Lock(0, 0, shared, 0, 0, false)
	is(t, "Lock", k.Lock(1, 0, alone, 0, 0, true), api.Pending, 0)
	is(t, "another file", k.Lock(2, 1, alone, 0, 0, true), api.OK, 0)
	is(t, "the other sort", k.Whole(2, 0, alone, true), api.OK, 0)
	is(t, "the same", k.Lock(2, 0, shared, 0, 1, false), api.ErrBusy, 0)
	is(t, "Test does not mind who waits", k.Test(2, 0, shared, 0, 0), api.OK, -1)
	is(t, "Test minds who has it", k.Test(2, 0, alone, 0, 0), api.OK, 0)
}

// Who has a lock can not have it once more, nor less of it, ahead of one that waits for it; it may free it.
func TestP5OfOnesOwnBehindOneThatWaits(t *testing.T) {
	k := apart(2)
	k.Lock(0, 0, alone, 5, 2, false)
	is(t, "Lock", k.Lock(1, 0, alone, 6, 1, true), api.Pending, 0)
	for _, kind := range []int{shared, alone} {
		is(t, "not to wait", k.Lock(0, 0, kind, 6, 1, false), api.ErrBusy, 0)
		is(t, "to wait", k.Lock(0, 0, kind, 6, 1, true), api.ErrDeadlock, 0)
	}
	is(t, "the rest", k.Lock(0, 0, shared, 5, 1, true), api.OK, 0)
	is(t, "Free", k.Lock(0, 0, free, 6, 1, true), api.OK, 0, done(1, api.OK))
}

func TestP5Deadlocks(t *testing.T) {
	start := func() *holds.Kernel {
		k := apart(4)
		for p := range 4 {
			k.Lock(p, 0, alone, 10*p, 1, false)
		}
		return k
	}
	k := start()
	is(t, "Lock", k.Lock(0, 0, alone, 10, 1, true), api.Pending, 0)
	is(t, "Lock", k.Lock(1, 0, alone, 20, 1, true), api.Pending, 0)
	is(t, "a row, no circle", k.Lock(3, 0, alone, 0, 1, true), api.Pending, 0)
	is(t, "a circle of three", k.Lock(2, 0, alone, 0, 1, true), api.ErrDeadlock, 0)
	is(t, "behind one of them", k.Lock(2, 0, shared, 30, 1, true), api.ErrDeadlock, 0)
	waitingAre(t, k, 0, 1, 3)
	k = start()
	is(t, "Lock", k.Lock(1, 0, alone, 0, 1, true), api.Pending, 0)
	is(t, "one thing of several is enough", k.Lock(0, 0, alone, 5, 20, true), api.ErrDeadlock, 0)
	is(t, "the other thing alone", k.Lock(0, 0, alone, 15, 10, true), api.Pending, 0)
	k = start()
	is(t, "Lock", k.Lock(1, 0, shared, 0, 1, true), api.Pending, 0)
	is(t, "by turn alone", k.Lock(2, 0, alone, 0, 1, true), api.Pending, 0)
	is(t, "by turn, and a circle", k.Lock(0, 0, shared, 20, 1, true), api.ErrDeadlock, 0)
	is(t, "Lock", k.Lock(0, 0, shared, 30, 1, true), api.Pending, 0)
	waitingAre(t, k, 1, 2, 0)
}

// Two want more of what both have: the second would wait for the first without end.
func TestP5MoreOfWhatTwoHave(t *testing.T) {
	k := apart(2)
	k.Lock(0, 0, shared, 9, 1, false)
	k.Lock(1, 0, shared, 9, 1, false)
	is(t, "Lock", k.Lock(0, 0, alone, 9, 1, true), api.Pending, 0)
	is(t, "Lock", k.Lock(1, 0, alone, 9, 1, true), api.ErrDeadlock, 0)
	runsAre(t, k, 0, api.Run{Proc: 0, Kind: shared, From: 9, To: 9}, api.Run{Proc: 1, Kind: shared, From: 9, To: 9})
	is(t, "Free", k.Lock(1, 0, free, 9, 1, false), api.OK, 0, done(0, api.OK))
	runsAre(t, k, 0, api.Run{Proc: 0, Kind: alone, From: 9, To: 9})
}

func TestP5TooManyRunsIsNotWaitedFor(t *testing.T) {
	k := apart(3)
	for i := range api.MaxRuns {
		k.Lock(0, 0, alone, 2*i, 1, false)
	}
	is(t, "nothing is in the way", k.Lock(1, 0, alone, 50, 1, true), api.ErrTable, 0)
	is(t, "Free", k.Lock(1, 0, free, 50, 1, true), api.OK, 0)
	is(t, "something is in the way", k.Lock(1, 0, alone, 0, 2, true), api.Pending, 0)
	waitingAre(t, k, 1)
}
