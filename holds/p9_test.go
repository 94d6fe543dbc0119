package holds_test

import (
	"testing"

	"holds/api"
	"holds/holds"
)

// tangle has five processes that wait behind one another and behind 0, with both sorts.
func tangle() *holds.Kernel {
	k := apart(6)
	k.Whole(0, 0, alone, false)
	for p := range 6 {
		k.Lock(p, 0, alone, 10*p, 3, false)
	}
	k.Whole(1, 0, shared, true)
	k.Lock(2, 0, shared, 0, 20, true)
	k.Whole(3, 0, alone, true)
	k.Lock(4, 0, alone, 31, 1, true)
	k.Lock(5, 0, shared, 15, 30, true)
	return k
}

func TestP9OneIsThereThatDoesNotWait(t *testing.T) {
	k := tangle()
	waitingAre(t, k, 1, 2, 3, 4, 5)
	for p := 1; p < 6; p++ {
		is(t, "the last one that does not wait", k.Lock(0, 0, shared, 10*p, 1, true), api.ErrDeadlock, 0)
	}
	is(t, "Lock", k.Lock(0, 0, alone, 63, 1, true), api.OK, 0)
	waitingAre(t, k, 1, 2, 3, 4, 5)
}

func TestP9NobodyWaitsInTheEnd(t *testing.T) {
	k := tangle()
	is(t, "Kill", k.Kill(0), api.OK, 0, done(1, api.OK))
	is(t, "Kill", k.Kill(1), api.OK, 0, done(2, api.OK), done(3, api.OK))
	is(t, "Kill", k.Kill(2), api.OK, 0)
	is(t, "Kill", k.Kill(3), api.OK, 0, done(4, api.OK))
	is(t, "Kill", k.Kill(4), api.OK, 0, done(5, api.OK))
	waitingAre(t, k)
	is(t, "Kill", k.Kill(5), api.OK, 0)
	runsAre(t, k, 0)
	holdsAre(t, k, 0)
}
