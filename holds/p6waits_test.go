package holds_test

import (
	"testing"

	"holds/api"
	"holds/holds"
)

func TestP6ExampleOfWaiting(t *testing.T) {
	k := holds.New()
	k.Open(0, 0)
	k.Open(0, 0)
	is(t, "Whole", k.Whole(0, 0, alone, false), api.OK, 0)
	is(t, "only 0 could let it go", k.Whole(0, 1, shared, true), api.ErrDeadlock, 0)
	is(t, "not to wait", k.Whole(0, 1, shared, false), api.ErrBusy, 0)
	is(t, "Fork", k.Fork(0), api.OK, 1)
	is(t, "1 could let it go", k.Whole(0, 1, shared, true), api.Pending, 0)
	waitingAre(t, k, 0)
	is(t, "Kill", k.Kill(1), api.OK, 0, done(0, api.ErrDeadlock))
	waitingAre(t, k)
	holdsAre(t, k, 0, hold(alone, 0))
}

func TestP6ErrorsAheadOfWaiting(t *testing.T) {
	k := apart(3)
	k.Whole(0, 0, alone, false)
	is(t, "Whole", k.Whole(1, 0, alone, true), api.Pending, 0)
	is(t, "Whole of one that waits", k.Whole(1, 9, 9, true), api.ErrBlocked, 0)
	is(t, "Free of one that waits", k.Whole(1, 0, free, false), api.ErrBlocked, 0)
	is(t, "Lock of one that waits", k.Lock(1, 0, free, 0, 0, false), api.ErrBlocked, 0)
	is(t, "Whole by nobody", k.Whole(5, 0, alone, true), api.ErrProc, 0)
	is(t, "Whole of nothing", k.Whole(2, 1, 9, true), api.ErrFd, 0)
	is(t, "Whole of no kind", k.Whole(2, 0, 9, true), api.ErrKind, 0)
	waitingAre(t, k, 1)
	holdsAre(t, k, 0, hold(alone, 0))
}

func TestP6NotAheadOfOneThatWaits(t *testing.T) {
	k := apart(4)
	k.Open(3, 1)
	k.Whole(0, 0, shared, false)
	is(t, "Whole", k.Whole(1, 0, alone, true), api.Pending, 0)
	is(t, "not to wait", k.Whole(2, 0, shared, false), api.ErrBusy, 0)
	is(t, "to wait", k.Whole(2, 0, shared, true), api.Pending, 0)
	is(t, "another file", k.Whole(3, 1, alone, true), api.OK, 0)
	is(t, "the other sort", k.Lock(3, 0, alone, 0, 0, true), api.OK, 0)
	is(t, "Free", k.Whole(3, 0, free, true), api.OK, 0)
	is(t, "its own once more", k.Whole(0, 0, shared, false), api.ErrBusy, 0)
	is(t, "its own once more, to wait", k.Whole(0, 0, shared, true), api.ErrDeadlock, 0)
	holdsAre(t, k, 0, hold(shared, 0))
	is(t, "Free", k.Whole(0, 0, free, true), api.OK, 0, done(1, api.OK))
	holdsAre(t, k, 0, hold(alone, 1))
	is(t, "Free", k.Whole(1, 0, free, false), api.OK, 0, done(2, api.OK))
	holdsAre(t, k, 0, hold(shared, 2))
}

// Who waits for the lock of the same opening is not in the way.
func TestP6TheSameOpeningWaits(t *testing.T) {
	k := apart(2)
	k.Fork(0)
	k.Whole(1, 0, shared, false)
	is(t, "Whole", k.Whole(0, 0, alone, true), api.Pending, 0)
	is(t, "less, for the same opening", k.Whole(2, 0, shared, false), api.OK, 0)
	holdsAre(t, k, 0, hold(shared, 1), hold(shared, 0, 2))
	is(t, "more, for the same opening", k.Whole(2, 0, alone, true), api.Pending, 0)
	waitingAre(t, k, 0, 2)
	is(t, "Free", k.Whole(1, 0, free, false), api.OK, 0, done(0, api.OK), done(2, api.OK))
	holdsAre(t, k, 0, hold(alone, 0, 2))
}

// A lock of an opening goes only by those that have it: all of them must be stuck.
func TestP6AllThatCouldLetItGo(t *testing.T) {
	k := holds.New()
	k.Open(0, 0)
	k.Fork(0)
	k.Fork(0)
	k.Close(2, 0)
	k.Open(2, 0)
	k.Whole(0, 0, alone, false)
	k.Lock(2, 0, alone, 7, 1, false)
	is(t, "Whole", k.Whole(2, 0, alone, true), api.Pending, 0)
	is(t, "1 could let it go still", k.Lock(0, 0, shared, 7, 1, true), api.Pending, 0)
	is(t, "nobody could", k.Lock(1, 0, shared, 7, 1, true), api.ErrDeadlock, 0)
	waitingAre(t, k, 2, 0)
	is(t, "1 lets it go", k.Whole(1, 0, free, false), api.OK, 0, done(2, api.OK))
	is(t, "Free", k.Lock(2, 0, free, 7, 1, false), api.OK, 0, done(0, api.OK))
}

// One who has the opening and waits for nothing of it is enough, wherever it came by it.
func TestP6DescriptorsThatComeAndGo(t *testing.T) {
	k := apart(2)
	k.Fork(0)
	k.Whole(0, 0, alone, false)
	k.Lock(1, 0, alone, 0, 1, false)
	is(t, "Whole", k.Whole(1, 0, alone, true), api.Pending, 0)
	is(t, "Lock", k.Lock(0, 0, alone, 0, 1, true), api.Pending, 0)
	is(t, "Fork", k.Fork(2), api.OK, 3)
	is(t, "Close", k.Close(2, 0), api.OK, 0)
	waitingAre(t, k, 1, 0)
	is(t, "Close", k.Close(3, 0), api.OK, 0, done(0, api.ErrDeadlock))
	waitingAre(t, k, 1)
}

func TestP6BothSortsInOneCircle(t *testing.T) {
	k := apart(3)
	k.Open(2, 2)
	k.Open(0, 2)
	k.Whole(0, 0, shared, false)
	k.Lock(1, 0, alone, 3, 1, false)
	k.Whole(2, 1, alone, false)
	is(t, "Whole", k.Whole(1, 0, alone, true), api.Pending, 0)
	is(t, "Lock", k.Lock(2, 0, shared, 3, 1, true), api.Pending, 0)
	is(t, "Whole", k.Whole(0, 1, shared, true), api.ErrDeadlock, 0)
	is(t, "Lock", k.Lock(0, 0, shared, 3, 1, true), api.ErrDeadlock, 0)
	is(t, "Lock", k.Lock(0, 0, alone, 4, 1, true), api.OK, 0)
	waitingAre(t, k, 1, 2)
}
