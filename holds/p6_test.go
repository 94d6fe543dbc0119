package holds_test

import (
	"testing"

	"holds/api"
	"holds/holds"
)

func TestP6WhoStandsBesideWhom(t *testing.T) {
	for _, one := range []struct {
		held, asked int
		want        api.Errno
	}{
		{free, shared, api.OK}, {free, alone, api.OK}, {free, free, api.OK},
		{shared, shared, api.OK}, {shared, alone, api.ErrBusy}, {shared, free, api.OK},
		{alone, shared, api.ErrBusy}, {alone, alone, api.ErrBusy}, {alone, free, api.OK},
	} {
		k := apart(2)
		is(t, "Whole", k.Whole(0, 0, one.held, false), api.OK, 0)
		is(t, "Whole beside it", k.Whole(1, 0, one.asked, false), one.want, 0)
		var want []api.Hold
		if one.held != free {
			want = append(want, hold(one.held, 0))
		}
		if one.want == api.OK && one.asked != free {
			want = append(want, hold(one.asked, 1))
		}
		holdsAre(t, k, 0, want...)
	}
}

func TestP6WrongNumbers(t *testing.T) {
	k := apart(1)
	k.Whole(0, 0, shared, false)
	for _, n := range wild {
		for _, wait := range []bool{false, true} {
			if n != 0 {
				is(t, "Whole by nobody", k.Whole(n, n, n, wait), api.ErrProc, 0)
				is(t, "Whole of nothing", k.Whole(0, n, alone, wait), api.ErrFd, 0)
			}
			if n < free || n > alone {
				is(t, "Whole of nothing and no kind", k.Whole(0, n, n, wait), api.ErrFd, 0)
				is(t, "Whole of no kind", k.Whole(0, 0, n, wait), api.ErrKind, 0)
			}
		}
	}
	holdsAre(t, k, 0, hold(shared, 0))
}

// What bites is an opening's, not a process's: two of one process bite, one of two processes does not.
func TestP6TheOwnerIsTheOpening(t *testing.T) {
	k := holds.New()
	k.Open(0, 0)
	k.Open(0, 0)
	k.Fork(0)
	is(t, "Whole", k.Whole(0, 0, alone, false), api.OK, 0)
	is(t, "Whole of another opening", k.Whole(0, 1, shared, false), api.ErrBusy, 0)
	is(t, "Whole of another opening", k.Whole(1, 1, alone, false), api.ErrBusy, 0)
	is(t, "Whole of the same one", k.Whole(1, 0, shared, false), api.OK, 0)
	holdsAre(t, k, 0, hold(shared, 0, 1))
	is(t, "Whole of another opening", k.Whole(0, 1, shared, false), api.OK, 0)
	is(t, "Whole, but the other one is there", k.Whole(0, 0, alone, false), api.ErrBusy, 0)
	holdsAre(t, k, 0, hold(shared, 0, 1), hold(shared, 0, 1))
	is(t, "Free by who did not ask", k.Whole(1, 1, free, false), api.OK, 0)
	is(t, "Whole", k.Whole(0, 0, alone, false), api.OK, 0)
	holdsAre(t, k, 0, hold(alone, 0, 1))
}

func TestP6FreeTakesTheOneLock(t *testing.T) {
	k := apart(3)
	for p := range 3 {
		k.Whole(p, 0, shared, false)
	}
	k.Lock(1, 0, alone, 0, 0, false)
	is(t, "Free", k.Whole(1, 0, free, false), api.OK, 0)
	holdsAre(t, k, 0, hold(shared, 0), hold(shared, 2))
	is(t, "Free of nothing", k.Whole(1, 0, free, true), api.OK, 0)
	holdsAre(t, k, 0, hold(shared, 0), hold(shared, 2))
	runsAre(t, k, 0, api.Run{Proc: 1, Kind: alone, From: 0, To: 63})
}

func TestP6SortsAndFilesAreApart(t *testing.T) {
	k := apart(2)
	k.Open(1, 1)
	is(t, "Whole", k.Whole(0, 0, alone, false), api.OK, 0)
	is(t, "Lock beside it", k.Lock(1, 0, alone, 3, 4, false), api.OK, 0)
	is(t, "Test does not see it", k.Test(1, 0, alone, 0, 0), api.OK, -1)
	is(t, "Whole beside positions", k.Whole(0, 0, shared, false), api.OK, 0)
	is(t, "Whole of another file", k.Whole(1, 1, alone, false), api.OK, 0)
	is(t, "positions freed", k.Lock(0, 0, free, 0, 0, false), api.OK, 0)
	runsAre(t, k, 0, api.Run{Proc: 1, Kind: alone, From: 3, To: 6})
	holdsAre(t, k, 0, hold(shared, 0))
	holdsAre(t, k, 1, hold(alone, 1))
	holdsAre(t, k, 2)
}

func TestP6NeverTooMany(t *testing.T) {
	k := apart(api.MaxProcs)
	for p := range api.MaxProcs {
		for range api.MaxFds - 1 {
			k.Open(p, 0)
		}
	}
	for i := range api.MaxRuns {
		is(t, "Lock", k.Lock(0, 0, shared, 2*i, 1, false), api.OK, 0)
	}
	for p := range api.MaxProcs {
		for fd := range api.MaxFds {
			is(t, "Whole", k.Whole(p, fd, shared, false), api.OK, 0)
		}
	}
	if got := len(k.Holds(0)); got != api.MaxProcs*api.MaxFds {
		t.Errorf("%d locks of the whole file", got)
	}
}
