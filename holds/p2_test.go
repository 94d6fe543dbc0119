package holds_test

import (
	"testing"

	"holds/api"
)

func TestP2ListsAreNew(t *testing.T) {
	k := family(1)
	want := []api.Run{{Kind: alone, From: 1, To: 2}, {Kind: shared, From: 4, To: 4}}
	k.Lock(0, 0, alone, 1, 2, false)
	k.Lock(0, 0, shared, 4, 1, false)
	kept := k.Runs(0)
	other := k.Runs(0)
	clear(other[:cap(other)])
	runsAre(t, k, 0, want...)
	_ = append(other, api.Run{From: 9})
	k.Lock(0, 0, alone, 0, 0, false)
	for i, r := range kept {
		if r != want[i] {
			t.Errorf("a list that came out has become %v", kept)
		}
	}
	runsAre(t, k, 0, api.Run{Kind: alone, From: 0, To: 63})
}

func TestP2KernelsAreApart(t *testing.T) {
	a, b := family(1), family(1)
	a.Lock(0, 0, alone, 0, 0, false)
	is(t, "Fork", a.Fork(0), api.OK, 1)
	is(t, "Open", a.Open(0, 1), api.OK, 1)
	runsAre(t, b, 0)
	is(t, "Dup", b.Dup(0, 1), api.ErrFd, 0)
	is(t, "Kill", b.Kill(1), api.ErrProc, 0)
	is(t, "Lock", b.Lock(0, 0, alone, 0, 0, false), api.OK, 0)
	is(t, "Kill", b.Kill(0), api.OK, 0)
	runsAre(t, a, 0, api.Run{Kind: alone, From: 0, To: 63})
}
