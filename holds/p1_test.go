package holds_test

import (
	"sync"
	"testing"

	"holds/api"
	"holds/holds"
)

func TestP1AllNumbers(t *testing.T) {
	k := family(2)
	k.Lock(0, 0, shared, 5, 5, false)
	for _, a := range wild {
		// Most of them come while a process waits.
		k.Lock(1, 0, alone, 5, 1, true)
		for _, b := range wild {
			k.Open(a, b)
			k.Dup(a, b)
			for _, c := range wild {
				k.Whole(a, b, c, false)
				k.Whole(a, b, c, true)
				for _, d := range wild {
					k.Lock(0, 0, c, a, d, false)
					k.Lock(a, b, c, d, d, true)
					k.Test(a, b, c, d, a)
				}
			}
			k.Close(a, b)
		}
		k.Runs(a)
		k.Holds(a)
		k.Waiting()
		k.Fork(a)
		k.Kill(a)
	}
}

// Each wrong call has all the faults that come behind the one that is told.
func TestP1FirstErrorAndNothingChanges(t *testing.T) {
	k := family(api.MaxProcs)
	for range api.MaxFds - 1 {
		k.Open(0, 1)
	}
	k.Lock(1, 0, alone, 10, 5, false)
	k.Whole(1, 0, shared, false)
	k.Close(3, 0)
	k.Open(3, 0)
	for i := range api.MaxRuns - 1 {
		k.Lock(2, 0, shared, 20+2*i, 1, false)
	}
	before := k.Runs(0)
	is(t, "Fork", k.Fork(-1), api.ErrProc, 0)
	is(t, "Fork", k.Fork(5), api.ErrFull, 0)
	is(t, "Kill", k.Kill(6), api.ErrProc, 0)
	is(t, "Open", k.Open(6, 3), api.ErrProc, 0)
	is(t, "Open", k.Open(0, 3), api.ErrFile, 0)
	is(t, "Open", k.Open(0, 0), api.ErrFull, 0)
	is(t, "Dup", k.Dup(6, 5), api.ErrProc, 0)
	is(t, "Dup", k.Dup(0, 5), api.ErrFd, 0)
	is(t, "Dup", k.Dup(0, 4), api.ErrFull, 0)
	is(t, "Close", k.Close(6, 5), api.ErrProc, 0)
	is(t, "Close", k.Close(1, 1), api.ErrFd, 0)
	is(t, "Lock", k.Lock(6, 5, 3, 64, 0, false), api.ErrProc, 0)
	is(t, "Lock", k.Lock(1, 1, 3, 64, 0, false), api.ErrFd, 0)
	is(t, "Lock", k.Lock(1, 0, 3, 64, 0, false), api.ErrKind, 0)
	is(t, "Lock", k.Lock(1, 0, free, 64, 0, false), api.ErrRange, 0)
	is(t, "Lock, busy and full", k.Lock(3, 0, alone, 10, 1, false), api.ErrBusy, 0)
	is(t, "Lock, full", k.Lock(3, 0, alone, 0, 1, false), api.ErrTable, 0)
	is(t, "Lock, full by Free", k.Lock(1, 0, free, 12, 1, false), api.ErrTable, 0)
	is(t, "Test", k.Test(6, 5, free, 64, 0), api.ErrProc, 0)
	is(t, "Test", k.Test(1, 1, free, 64, 0), api.ErrFd, 0)
	is(t, "Test", k.Test(1, 0, free, 64, 0), api.ErrKind, 0)
	is(t, "Test", k.Test(1, 0, alone, 64, 0), api.ErrRange, 0)
	is(t, "Whole", k.Whole(6, 5, 3, false), api.ErrProc, 0)
	is(t, "Whole", k.Whole(1, 1, 3, false), api.ErrFd, 0)
	is(t, "Whole", k.Whole(3, 0, 3, false), api.ErrKind, 0)
	is(t, "Whole", k.Whole(3, 0, alone, false), api.ErrBusy, 0)
	runsAre(t, k, 0, before...)
	holdsAre(t, k, 0, hold(shared, 0, 1, 2, 4, 5))
	is(t, "Open behind it all", k.Open(1, 2), api.OK, 1)
}

// Every goroutine changes the same lists and maps; what each of them did must be there in the end.
func TestP1Goroutines(t *testing.T) {
	for range 100 {
		k := family(api.MaxProcs)
		var all sync.WaitGroup
		for p := range api.MaxProcs {
			all.Go(func() { busyWith(k, p) })
		}
		all.Wait()
		var want []api.Run
		for p := range api.MaxProcs {
			want = append(want, api.Run{Proc: p, Kind: alone, From: 10 * p, To: 10*p + 2}, api.Run{Proc: p, Kind: shared, From: 10*p + 5, To: 10*p + 6})
		}
		runsAre(t, k, 0, want...)
		holdsAre(t, k, 0, hold(alone, 0, 1, 2, 3, 4, 5))
		if got := len(k.Holds(1)); got != api.MaxProcs {
			t.Errorf("%d locks of the whole file 1", got)
		}
		for p := range api.MaxProcs {
			is(t, "Dup", k.Dup(p, 0), api.OK, 2)
		}
	}
}

func busyWith(k *holds.Kernel, p int) {
	k.Lock(p, 0, alone, 10*p, 3, false)
	for range 20 {
		fd := k.Open(p, 1).N
		k.Dup(p, fd)
		k.Lock(p, fd, shared, p, 1, false)
		k.Test(p, 0, shared, 0, 0)
		k.Runs(0)
		k.Whole(p, fd, shared, false)
		k.Whole(p, 0, alone, false)
		k.Holds(1)
		k.Close(p, fd)
		k.Close(p, fd+1)
	}
	k.Whole(p, k.Open(p, 1).N, shared, false)
	k.Lock(p, 0, shared, 10*p+5, 2, false)
}

// Each waiting ends once, whoever lets it: no Done is lost and none comes twice.
func TestP1GoroutinesThatWait(t *testing.T) {
	for range 30 {
		k := apart(api.MaxProcs)
		var all sync.WaitGroup
		var began, ended [api.MaxProcs]int
		for p := range api.MaxProcs {
			all.Go(func() { began[p], ended[p] = waitOften(k, p) })
		}
		all.Wait()
		open := len(k.Waiting())
		for p := range api.MaxProcs {
			open -= began[p] - ended[p]
		}
		if open != 0 {
			t.Errorf("%v began to wait, %v times waiting was told to end, and %v wait", began, ended, k.Waiting())
		}
	}
}

// waitOften counts how often a process began to wait, and how many it was told of that wait no more.
func waitOften(k *holds.Kernel, p int) (began, ended int) {
	tell := func(r api.Reply) {
		ended += len(r.Done)
		if r.Err == api.Pending {
			began++
		}
	}
	for i := range 100 {
		tell(k.Lock(p, 0, shared+i%2, i%7, 1+i%3, true))
		tell(k.Whole(p, 0, shared+i%3%2, true))
		k.Waiting()
		tell(k.Whole(p, 0, free, false))
		tell(k.Lock(p, 0, free, 0, 0, false))
	}
	return began, ended
}
