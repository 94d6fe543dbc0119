package holds_test

import (
	"testing"

	"holds/api"
	"holds/holds"
)

func TestP8HoldsInTheOrderInWhichTheyWereGot(t *testing.T) {
	k := apart(3)
	for _, p := range []int{2, 0, 1} {
		k.Whole(p, 0, shared, false)
	}
	holdsAre(t, k, 0, hold(shared, 2), hold(shared, 0), hold(shared, 1))
	is(t, "the same kind", k.Whole(2, 0, shared, true), api.OK, 0)
	is(t, "the same kind", k.Whole(0, 0, shared, false), api.OK, 0)
	is(t, "busy", k.Whole(2, 0, alone, false), api.ErrBusy, 0)
	holdsAre(t, k, 0, hold(shared, 2), hold(shared, 0), hold(shared, 1))
	k.Whole(2, 0, free, false)
	k.Whole(2, 0, shared, false)
	holdsAre(t, k, 0, hold(shared, 0), hold(shared, 1), hold(shared, 2))
	k.Close(0, 0)
	k.Open(0, 0)
	k.Whole(0, 0, shared, false)
	holdsAre(t, k, 0, hold(shared, 1), hold(shared, 2), hold(shared, 0))
}

func TestP8HoldsOfAnotherKind(t *testing.T) {
	k := apart(3)
	k.Whole(1, 0, alone, false)
	k.Whole(1, 0, alone, false)
	holdsAre(t, k, 0, hold(alone, 1))
	k.Whole(1, 0, shared, false)
	k.Whole(0, 0, shared, false)
	holdsAre(t, k, 0, hold(shared, 1), hold(shared, 0))
	k.Whole(0, 0, free, false)
	k.Whole(1, 0, alone, false)
	holdsAre(t, k, 0, hold(alone, 1))
}

func TestP8HoldsOfProcessesRisingEachOnce(t *testing.T) {
	k := holds.New()
	k.Open(0, 2)
	k.Fork(0)
	k.Fork(1)
	k.Fork(2)
	k.Kill(0)
	k.Kill(2)
	k.Dup(3, 0)
	k.Dup(3, 0)
	k.Close(3, 0)
	k.Whole(3, 2, alone, false)
	holdsAre(t, k, 2, hold(alone, 1, 3))
	k.Fork(3)
	holdsAre(t, k, 2, hold(alone, 0, 1, 3))
	is(t, "Open of another one", k.Open(1, 2), api.OK, 1)
	holdsAre(t, k, 2, hold(alone, 0, 1, 3))
	k.Close(1, 0)
	holdsAre(t, k, 2, hold(alone, 0, 3))
}

func TestP8OfNoFile(t *testing.T) {
	k := apart(1)
	k.Whole(0, 0, alone, false)
	k.Lock(0, 0, alone, 0, 0, false)
	for _, n := range wild {
		if n != 0 {
			holdsAre(t, k, n)
			runsAre(t, k, n)
		}
	}
	holdsAre(t, k, 0, hold(alone, 0))
}

// The lock of 0 gets another kind, and only behind that do 2 and 1, who asked ahead of it, get theirs.
func TestP8HoldsThatWereWaitedFor(t *testing.T) {
	k := apart(3)
	k.Whole(0, 0, alone, false)
	is(t, "Whole", k.Whole(2, 0, shared, true), api.Pending, 0)
	is(t, "Whole", k.Whole(1, 0, shared, true), api.Pending, 0)
	is(t, "less", k.Whole(0, 0, shared, false), api.OK, 0, done(2, api.OK), done(1, api.OK))
	holdsAre(t, k, 0, hold(shared, 0), hold(shared, 2), hold(shared, 1))
	is(t, "the same kind", k.Whole(2, 0, shared, true), api.OK, 0)
	is(t, "the same kind", k.Whole(0, 0, shared, true), api.OK, 0)
	holdsAre(t, k, 0, hold(shared, 0), hold(shared, 2), hold(shared, 1))
}

// 3 asks behind 1 and gets it ahead of 1, which waits behind 2, who has the opening of 3.
func TestP8HoldsOfOneThatAskedLaterAndGotItFirst(t *testing.T) {
	k := apart(3)
	k.Fork(2)
	k.Whole(0, 0, shared, false)
	is(t, "Whole", k.Whole(2, 0, alone, true), api.Pending, 0)
	is(t, "Whole", k.Whole(1, 0, shared, true), api.Pending, 0)
	is(t, "Whole", k.Whole(3, 0, shared, true), api.OK, 0)
	holdsAre(t, k, 0, hold(shared, 0), hold(shared, 2, 3))
	is(t, "Kill", k.Kill(2), api.OK, 0, done(1, api.OK))
	holdsAre(t, k, 0, hold(shared, 0), hold(shared, 3), hold(shared, 1))
}

// What 0 waits for its opening has already: got once more with the same kind, it keeps its place, though 1 got its lock between.
func TestP8HoldsOfTheSameKindThatWasWaitedFor(t *testing.T) {
	k := apart(4)
	k.Fork(0)
	k.Whole(0, 0, shared, false)
	k.Whole(1, 0, shared, false)
	is(t, "Whole", k.Whole(3, 0, alone, true), api.Pending, 0)
	is(t, "the same kind", k.Whole(0, 0, shared, true), api.Pending, 0)
	is(t, "Whole", k.Whole(2, 0, shared, true), api.Pending, 0)
	is(t, "Kill", k.Kill(3), api.OK, 0, done(0, api.OK), done(2, api.OK))
	holdsAre(t, k, 0, hold(shared, 0, 4), hold(shared, 1), hold(shared, 2))
}

// While 0 waits for it, 4 lets the lock of their opening go: so 0 gets it anew, behind the lock of 1.
func TestP8HoldsThatWentWhileTheyWereWaitedFor(t *testing.T) {
	k := apart(4)
	k.Fork(0)
	k.Whole(0, 0, shared, false)
	k.Whole(1, 0, shared, false)
	is(t, "Whole", k.Whole(3, 0, alone, true), api.Pending, 0)
	is(t, "the same kind", k.Whole(0, 0, shared, true), api.Pending, 0)
	is(t, "Free", k.Whole(4, 0, free, false), api.OK, 0)
	holdsAre(t, k, 0, hold(shared, 1))
	is(t, "Kill", k.Kill(3), api.OK, 0, done(0, api.OK))
	holdsAre(t, k, 0, hold(shared, 1), hold(shared, 0, 4))
}

// 2 asked ahead of 0, but only by the other kind that the lock of 0 gets can it have its own.
func TestP8HoldsOfAnotherKindThatWasWaitedFor(t *testing.T) {
	k := apart(3)
	k.Fork(0)
	k.Whole(0, 0, alone, false)
	is(t, "Whole", k.Whole(1, 0, alone, true), api.Pending, 0)
	is(t, "Whole", k.Whole(2, 0, shared, true), api.Pending, 0)
	is(t, "less", k.Whole(0, 0, shared, true), api.Pending, 0)
	is(t, "Kill", k.Kill(1), api.OK, 0, done(0, api.OK), done(2, api.OK))
	holdsAre(t, k, 0, hold(shared, 0, 3), hold(shared, 2))
}

func TestP8WaitingInTheOrderInWhichTheyAsked(t *testing.T) {
	k := apart(6)
	waitingAre(t, k)
	k.Lock(0, 0, alone, 0, 9, false)
	k.Whole(0, 0, alone, false)
	k.Lock(4, 0, shared, 3, 1, true)
	k.Whole(2, 0, shared, true)
	k.Lock(5, 0, alone, 2, 5, true)
	k.Whole(1, 0, shared, true)
	k.Lock(3, 0, alone, 0, 1, true)
	waitingAre(t, k, 4, 2, 5, 1, 3)
	k.Kill(5)
	waitingAre(t, k, 4, 2, 1, 3)
	k.Whole(0, 0, free, false)
	waitingAre(t, k, 4, 3)
	k.Lock(2, 0, alone, 1, 1, true)
	waitingAre(t, k, 4, 3, 2)
	k.Lock(0, 0, free, 3, 1, false)
	waitingAre(t, k, 3, 2)
	k.Lock(4, 0, alone, 2, 1, true)
	waitingAre(t, k, 3, 2, 4)
	k.Kill(0)
	waitingAre(t, k)
}
