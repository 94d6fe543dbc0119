package holds_test

import (
	"slices"
	"testing"

	"holds/api"
	"holds/holds"
)

func TestP2ListsAreNew(t *testing.T) {
	k := family(1)
	want := []api.Run{{Kind: alone, From: 1, To: 2}, {Kind: shared, From: 4, To: 4}}
	k.Lock(0, 0, alone, 1, 2, false)
	k.Lock(0, 0, shared, 4, 1, false)
	kept := k.Runs(0)
	other := k.Runs(0)
	clear(other[:cap(other)])
	runsAre(t, k, 0, want...)
	_ = append(other, api.Run{From: 9})
	k.Lock(0, 0, alone, 0, 0, false)
	for i, r := range kept {
		if r != want[i] {
			t.Errorf("a list that came out has become %v", kept)
		}
	}
	runsAre(t, k, 0, api.Run{Kind: alone, From: 0, To: 63})
}

func TestP2ListsOfHoldsAreNew(t *testing.T) {
	k := family(3)
	k.Open(0, 0)
	k.Whole(0, 0, shared, false)
	k.Whole(0, 1, shared, false)
	want := []api.Hold{hold(shared, 0, 1, 2), hold(shared, 0)}
	kept := k.Holds(0)
	other := k.Holds(0)
	for i := range other {
		_ = append(other[i].Procs, 9, 9)
		clear(other[i].Procs[:cap(other[i].Procs)])
	}
	holdsAre(t, k, 0, want...)
	clear(other[:cap(other)])
	_ = append(other, hold(alone, 9))
	holdsAre(t, k, 0, want...)
	k.Kill(1)
	k.Whole(0, 0, free, false)
	k.Whole(0, 1, alone, false)
	if !slices.EqualFunc(kept, want, sameHold) {
		t.Errorf("a list that came out has become %v", kept)
	}
}

// Both openings are the same processes', so that one list told for both of them would show.
func TestP2ListsOfOneAnswerAreApart(t *testing.T) {
	k := holds.New()
	k.Open(0, 0)
	k.Open(0, 0)
	k.Fork(0)
	k.Whole(0, 0, shared, false)
	k.Whole(0, 1, shared, false)
	list := k.Holds(0)
	_ = append(list[0].Procs, 9, 9)
	clear(list[0].Procs)
	if !sameHold(list[1], hold(shared, 0, 1)) {
		t.Errorf("the second list has become %v", list[1])
	}
}

func TestP2DoneAndWaitingAreNew(t *testing.T) {
	k := apart(6)
	k.Lock(0, 0, alone, 0, 1, false)
	k.Lock(0, 0, alone, 2, 1, false)
	for p := 1; p < 4; p++ {
		k.Lock(p, 0, shared, 0, 1, true)
	}
	k.Lock(4, 0, shared, 2, 1, true)
	k.Lock(5, 0, shared, 2, 1, true)
	kept, other := k.Waiting(), k.Waiting()
	_ = append(other, 9)
	clear(other[:cap(other)])
	waitingAre(t, k, 1, 2, 3, 4, 5)
	first := k.Lock(0, 0, free, 0, 1, false)
	_ = append(first.Done, done(9, api.OK))
	clear(first.Done[:cap(first.Done)])
	waitingAre(t, k, 4, 5)
	second := k.Lock(0, 0, free, 0, 0, false)
	is(t, "Free", second, api.OK, 0, done(4, api.OK), done(5, api.OK))
	k.Lock(1, 0, alone, 10, 1, false)
	k.Lock(2, 0, alone, 10, 1, true)
	k.Kill(1)
	is(t, "Free, kept", second, api.OK, 0, done(4, api.OK), done(5, api.OK))
	if !slices.Equal(kept, []int{1, 2, 3, 4, 5}) {
		t.Errorf("a list that came out has become %v", kept)
	}
}

func TestP2KernelsAreApart(t *testing.T) {
	a, b := family(1), family(1)
	c := apart(2)
	c.Lock(0, 0, alone, 0, 0, false)
	is(t, "Lock", c.Lock(1, 0, alone, 0, 0, true), api.Pending, 0)
	waitingAre(t, a)
	a.Lock(0, 0, alone, 0, 0, false)
	a.Whole(0, 0, alone, false)
	is(t, "Fork", a.Fork(0), api.OK, 1)
	is(t, "Open", a.Open(0, 1), api.OK, 1)
	runsAre(t, b, 0)
	holdsAre(t, b, 0)
	is(t, "Dup", b.Dup(0, 1), api.ErrFd, 0)
	is(t, "Kill", b.Kill(1), api.ErrProc, 0)
	is(t, "Lock", b.Lock(0, 0, alone, 0, 0, false), api.OK, 0)
	is(t, "Whole", b.Whole(0, 0, shared, false), api.OK, 0)
	is(t, "Kill", b.Kill(0), api.OK, 0)
	holdsAre(t, a, 0, hold(alone, 0, 1))
	runsAre(t, a, 0, api.Run{Kind: alone, From: 0, To: 63})
}
