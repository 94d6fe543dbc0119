package holds_test

import (
	"testing"

	"holds/api"
	"holds/holds"
)

func TestP5Example(t *testing.T) {
	k := holds.New()
	is(t, "Open", k.Open(0, 1), api.OK, 0)
	is(t, "Lock", k.Lock(0, 0, alone, 5, 10, false), api.OK, 0)
	runsAre(t, k, 1, api.Run{Kind: alone, From: 5, To: 14})
	is(t, "Lock", k.Lock(0, 0, free, 8, 2, false), api.OK, 0)
	runsAre(t, k, 1, api.Run{Kind: alone, From: 5, To: 7}, api.Run{Kind: alone, From: 10, To: 14})
	is(t, "Lock", k.Lock(0, 0, shared, 6, -1, false), api.OK, 0)
	three := []api.Run{{Kind: shared, From: 5, To: 5}, {Kind: alone, From: 6, To: 7}, {Kind: alone, From: 10, To: 14}}
	runsAre(t, k, 1, three...)
	is(t, "Lock", k.Lock(0, 0, alone, 60, 0, false), api.OK, 0)
	four := append(three, api.Run{Kind: alone, From: 60, To: 63})
	runsAre(t, k, 1, four...)
	is(t, "Lock", k.Lock(0, 0, alone, 60, 5, false), api.ErrRange, 0)
	runsAre(t, k, 1, four...)
	is(t, "Close", k.Close(0, 0), api.OK, 0)
	runsAre(t, k, 1)
}

func TestP5WrongNumbers(t *testing.T) {
	k := family(1)
	for _, n := range wild {
		if n != 0 {
			is(t, "Lock by nobody", k.Lock(n, 0, alone, 0, 0, false), api.ErrProc, 0)
			is(t, "Test by nobody", k.Test(n, 0, alone, 0, 0), api.ErrProc, 0)
			is(t, "Lock of nothing", k.Lock(0, n, alone, 0, 0, false), api.ErrFd, 0)
			is(t, "Test of nothing", k.Test(0, n, alone, 0, 0), api.ErrFd, 0)
		}
		if n < free || n > alone {
			is(t, "Lock of no kind", k.Lock(0, 0, n, 0, 0, false), api.ErrKind, 0)
			is(t, "Test of no kind", k.Test(0, 0, n, 0, 0), api.ErrKind, 0)
		}
		if n < 0 || n > api.MaxPos {
			is(t, "Lock from nowhere", k.Lock(0, 0, alone, n, 0, false), api.ErrRange, 0)
			is(t, "Free from nowhere", k.Lock(0, 0, free, n, 0, false), api.ErrRange, 0)
			is(t, "Test from nowhere", k.Test(0, 0, shared, n, 0), api.ErrRange, 0)
		}
	}
	is(t, "Test for Free", k.Test(0, 0, free, 0, 0), api.ErrKind, 0)
	runsAre(t, k, 0)
}

func TestP5BusyOnlyWhereTheyBite(t *testing.T) {
	for _, c := range []struct {
		has, asks, from, length int
		e                       api.Errno
	}{
		{shared, shared, 10, 5, api.OK}, {shared, alone, 10, 5, api.ErrBusy}, {alone, shared, 10, 5, api.ErrBusy}, {alone, alone, 10, 5, api.ErrBusy},
		{alone, alone, 14, 1, api.ErrBusy}, {alone, alone, 15, 0, api.OK}, {alone, alone, 0, 10, api.OK}, {alone, alone, 0, 11, api.ErrBusy}, {alone, alone, 10, -10, api.OK}, {alone, shared, 0, 0, api.ErrBusy},
		{alone, free, 0, 0, api.OK},
	} {
		k := family(2)
		k.Lock(0, 0, c.has, 10, 5, false)
		is(t, "Lock", k.Lock(1, 0, c.asks, c.from, c.length, false), c.e, 0)
		is(t, "Lock of its own", k.Lock(0, 0, c.has, 10, 5, false), api.OK, 0)
		if c.e != api.OK || c.asks == free {
			runsAre(t, k, 0, api.Run{Proc: 0, Kind: c.has, From: 10, To: 14})
		}
	}
}

func TestP5OtherFilesAreNotInTheWay(t *testing.T) {
	k := family(2)
	k.Open(1, 1)
	k.Lock(0, 0, alone, 0, 0, false)
	is(t, "Lock", k.Lock(1, 1, alone, 0, 0, false), api.OK, 0)
	is(t, "Test", k.Test(1, 1, alone, 0, 0), api.OK, -1)
	is(t, "Test", k.Test(1, 0, alone, 0, 0), api.OK, 0)
}

func TestP5WaitMattersNotWhereNothingIsInTheWay(t *testing.T) {
	k := family(2)
	is(t, "Lock", k.Lock(0, 0, shared, 0, 0, true), api.OK, 0)
	is(t, "Lock", k.Lock(1, 0, shared, 0, 0, true), api.OK, 0)
	is(t, "Lock", k.Lock(1, 0, free, 0, 0, true), api.OK, 0)
	is(t, "Lock", k.Lock(0, 0, alone, 0, 0, true), api.OK, 0)
	is(t, "Lock", k.Lock(1, 0, free, 0, 0, true), api.OK, 0)
	is(t, "Lock", k.Lock(1, 0, alone, 64, 0, true), api.ErrRange, 0)
	runsAre(t, k, 0, api.Run{Kind: alone, From: 0, To: 63})
}

// The runs of all processes count, those of other files do not.
func TestP5TooManyRuns(t *testing.T) {
	k := family(2)
	k.Open(0, 1)
	for i := range api.MaxRuns / 2 {
		is(t, "Lock", k.Lock(0, 0, shared, 4*i, 3, false), api.OK, 0)
		is(t, "Lock", k.Lock(1, 0, shared, 4*i, 3, false), api.OK, 0)
	}
	full := k.Runs(0)
	if len(full) != api.MaxRuns {
		t.Fatalf("runs: %v", full)
	}
	is(t, "one more", k.Lock(0, 0, shared, 50, 1, false), api.ErrTable, 0)
	is(t, "one split by Free", k.Lock(1, 0, free, 1, 1, false), api.ErrTable, 0)
	runsAre(t, k, 0, full...)
	is(t, "Test tells nothing of it", k.Test(0, 0, shared, 50, 1), api.OK, -1)
	is(t, "the same once more", k.Lock(0, 0, shared, 1, 1, false), api.OK, 0)
	is(t, "another file", k.Lock(0, 1, shared, 50, 1, false), api.OK, 0)
	is(t, "two joined", k.Lock(0, 0, shared, 3, 1, false), api.OK, 0)
	is(t, "one more", k.Lock(0, 0, alone, 50, 1, false), api.OK, 0)
	is(t, "one more than that", k.Lock(0, 0, shared, 51, 1, false), api.ErrTable, 0)
	is(t, "one changed whole", k.Lock(0, 0, shared, 50, 1, false), api.OK, 0)
	is(t, "one ended", k.Lock(1, 0, free, 0, 3, false), api.OK, 0)
	is(t, "one more", k.Lock(1, 0, shared, 63, 1, false), api.OK, 0)
}

func TestP5TestTellsTheLeast(t *testing.T) {
	k := family(4)
	k.Lock(3, 0, shared, 0, 20, false)
	k.Lock(2, 0, shared, 10, 20, false)
	k.Lock(1, 0, alone, 40, 1, false)
	before := k.Runs(0)
	for _, c := range []struct{ p, kind, from, length, who int }{
		{0, alone, 0, 10, 3}, {0, alone, 0, 11, 2}, {0, alone, 0, 0, 1}, {0, shared, 0, 40, -1}, {0, shared, 0, 41, 1}, {0, shared, 41, 0, -1},
		{3, alone, 0, 10, -1}, {3, alone, 0, 20, 2}, {2, alone, 0, 20, 3}, {1, alone, 30, 0, -1}, {1, shared, 0, 0, -1}, {0, alone, 30, -1, 2},
	} {
		is(t, "Test", k.Test(c.p, 0, c.kind, c.from, c.length), api.OK, c.who)
	}
	runsAre(t, k, 0, before...)
	k.Lock(0, 0, alone, 50, 1, false)
	is(t, "Test of the process 0", k.Test(1, 0, shared, 50, 1), api.OK, 0)
}

func TestP8RunsInOrder(t *testing.T) {
	k := family(3)
	k.Lock(2, 0, shared, 5, 5, false)
	k.Lock(0, 0, shared, 5, 9, false)
	k.Lock(1, 0, shared, 0, 20, false)
	k.Lock(1, 0, free, 3, 2, false)
	k.Lock(2, 0, alone, 30, 1, false)
	k.Lock(0, 0, alone, 25, 2, false)
	runsAre(t, k, 0,
		api.Run{Proc: 1, Kind: shared, From: 0, To: 2},
		api.Run{Proc: 0, Kind: shared, From: 5, To: 13},
		api.Run{Proc: 1, Kind: shared, From: 5, To: 19},
		api.Run{Proc: 2, Kind: shared, From: 5, To: 9},
		api.Run{Proc: 0, Kind: alone, From: 25, To: 26},
		api.Run{Proc: 2, Kind: alone, From: 30, To: 30})
	for _, n := range wild {
		if n != 0 {
			runsAre(t, k, n)
		}
	}
}
