package holds_test

import (
	"testing"

	"holds/api"
	"holds/holds"
)

func TestP4OpenTakesTheLeastDescriptor(t *testing.T) {
	k := holds.New()
	for fd := range api.MaxFds {
		is(t, "Open", k.Open(0, fd%api.MaxFiles), api.OK, fd)
	}
	is(t, "Open", k.Open(0, 0), api.ErrFull, 0)
	is(t, "Dup", k.Dup(0, 0), api.ErrFull, 0)
	is(t, "Close", k.Close(0, 3), api.OK, 0)
	is(t, "Close", k.Close(0, 1), api.OK, 0)
	is(t, "Close again", k.Close(0, 1), api.ErrFd, 0)
	is(t, "Dup", k.Dup(0, 2), api.OK, 1)
	is(t, "Open", k.Open(0, 0), api.OK, 3)
	k.Lock(0, 1, shared, 0, 1, false)
	runsAre(t, k, 2, api.Run{Kind: shared, From: 0, To: 0})
	k.Lock(0, 3, shared, 1, 1, false)
	runsAre(t, k, 0, api.Run{Kind: shared, From: 1, To: 1})
}

func TestP4WrongNumbers(t *testing.T) {
	k := family(1)
	for _, n := range wild {
		if n != 0 {
			is(t, "Open by nobody", k.Open(n, 0), api.ErrProc, 0)
			is(t, "Dup by nobody", k.Dup(n, 0), api.ErrProc, 0)
			is(t, "Close by nobody", k.Close(n, 0), api.ErrProc, 0)
			is(t, "Dup of nothing", k.Dup(0, n), api.ErrFd, 0)
			is(t, "Close of nothing", k.Close(0, n), api.ErrFd, 0)
		}
		if n < 0 || n >= api.MaxFiles {
			is(t, "Open of nothing", k.Open(0, n), api.ErrFile, 0)
			runsAre(t, k, n)
		}
	}
	is(t, "Dup", k.Dup(0, 0), api.OK, 1)
}

func TestP4CloseFreesTheFileWhateverDescriptor(t *testing.T) {
	k := family(2)
	k.Open(0, 0)
	k.Dup(0, 0)
	k.Open(0, 1)
	lockAll := func() {
		k.Lock(0, 0, alone, 0, 1, false)
		k.Lock(0, 1, shared, 10, 2, false)
		k.Lock(0, 2, alone, 63, 1, false)
		k.Lock(0, 3, alone, 5, 1, false)
		k.Lock(1, 0, shared, 11, 2, false)
	}
	for _, fd := range []int{2, 1, 0} {
		lockAll()
		is(t, "Close", k.Close(0, fd), api.OK, 0)
		runsAre(t, k, 0, api.Run{Proc: 1, Kind: shared, From: 11, To: 12})
		runsAre(t, k, 1, api.Run{Proc: 0, Kind: alone, From: 5, To: 5})
	}
}

func TestP4TheLockGoesWithTheLastDescriptor(t *testing.T) {
	k := apart(2)
	k.Dup(0, 0)
	k.Fork(0)
	k.Whole(0, 0, alone, false)
	holdsAre(t, k, 0, hold(alone, 0, 2))
	is(t, "Close", k.Close(0, 1), api.OK, 0)
	holdsAre(t, k, 0, hold(alone, 0, 2))
	is(t, "Close", k.Close(0, 0), api.OK, 0)
	holdsAre(t, k, 0, hold(alone, 2))
	is(t, "Close", k.Close(2, 0), api.OK, 0)
	holdsAre(t, k, 0, hold(alone, 2))
	is(t, "Whole, one descriptor is left", k.Whole(1, 0, shared, false), api.ErrBusy, 0)
	is(t, "Open of the same number", k.Open(2, 0), api.OK, 0)
	is(t, "Close", k.Close(2, 1), api.OK, 0)
	holdsAre(t, k, 0)
	is(t, "Whole, none is left", k.Whole(1, 0, alone, false), api.OK, 0)
	holdsAre(t, k, 0, hold(alone, 1))
}

func TestP4CloseLeavesOtherOpenings(t *testing.T) {
	k := holds.New()
	for _, file := range []int{0, 0, 1, 2} {
		k.Open(0, file)
	}
	for fd := range 4 {
		k.Whole(0, fd, shared, false)
	}
	is(t, "Close", k.Close(0, 0), api.OK, 0)
	holdsAre(t, k, 0, hold(shared, 0))
	holdsAre(t, k, 1, hold(shared, 0))
	holdsAre(t, k, 2, hold(shared, 0))
	is(t, "Close", k.Close(0, 2), api.OK, 0)
	holdsAre(t, k, 0, hold(shared, 0))
	holdsAre(t, k, 1)
	holdsAre(t, k, 2, hold(shared, 0))
	is(t, "an opening anew has no lock", k.Open(0, 1), api.OK, 0)
	holdsAre(t, k, 1)
}

// Each call has all the faults that come behind ErrBlocked.
func TestP4OfOneThatWaits(t *testing.T) {
	k := apart(2)
	for range api.MaxFds - 1 {
		k.Open(1, 0)
	}
	k.Lock(0, 0, alone, 0, 0, false)
	is(t, "Lock", k.Lock(1, 0, shared, 3, 1, true), api.Pending, 0)
	is(t, "Open", k.Open(1, 0), api.ErrBlocked, 0)
	is(t, "Open of nothing", k.Open(1, api.MaxFiles), api.ErrBlocked, 0)
	is(t, "Dup", k.Dup(1, 0), api.ErrBlocked, 0)
	is(t, "Dup of nothing", k.Dup(1, -1), api.ErrBlocked, 0)
	is(t, "Close", k.Close(1, 1), api.ErrBlocked, 0)
	is(t, "Close of nothing", k.Close(1, -1), api.ErrBlocked, 0)
	is(t, "Close", k.Close(0, 0), api.OK, 0, done(1, api.OK))
	is(t, "Close", k.Close(1, 1), api.OK, 0)
	is(t, "Open", k.Open(1, 2), api.OK, 1)
}

func TestP4CloseTellsWhoWaitsNoMore(t *testing.T) {
	k := apart(4)
	k.Open(0, 0)
	k.Open(0, 1)
	k.Open(3, 1)
	k.Lock(0, 0, alone, 0, 1, false)
	k.Whole(0, 1, alone, false)
	k.Lock(0, 2, alone, 0, 1, false)
	k.Lock(1, 0, shared, 0, 1, true)
	k.Whole(2, 0, shared, true)
	k.Lock(3, 1, shared, 0, 1, true)
	waitingAre(t, k, 1, 2, 3)
	is(t, "Close of what did not lock it", k.Close(0, 1), api.OK, 0, done(1, api.OK), done(2, api.OK))
	waitingAre(t, k, 3)
	is(t, "Close", k.Close(0, 0), api.OK, 0)
	is(t, "Close of the other file", k.Close(0, 2), api.OK, 0, done(3, api.OK))
}

func TestP4CloseByTheLastOneThatCould(t *testing.T) {
	k := holds.New()
	k.Open(0, 0)
	k.Open(0, 0)
	k.Fork(0)
	k.Dup(1, 0)
	k.Whole(0, 0, alone, false)
	is(t, "Whole", k.Whole(0, 1, alone, true), api.Pending, 0)
	is(t, "Close, another descriptor is left", k.Close(1, 0), api.OK, 0)
	is(t, "Close", k.Close(1, 2), api.OK, 0, done(0, api.ErrDeadlock))
	holdsAre(t, k, 0, hold(alone, 0))
}
