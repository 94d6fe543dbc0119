package procs

import (
	"slices"
	"testing"

	"holds/terms"
)

// sees fails unless the descriptors are of one opening, or of two.
func sees(t *testing.T, tab *Table, a, b place, same bool) {
	t.Helper()
	x, y := tab.under[a], tab.under[b]
	if x == nil || y == nil || (x == y) != same {
		t.Errorf("%v and %v: one opening is not %v", a, b, same)
	}
}

func TestOpeningsAreShared(t *testing.T) {
	tab := New()
	tab.Open(0, 1)
	tab.Open(0, 1)
	tab.Dup(0, 0)
	tab.Fork(0)
	sees(t, tab, place{0, 0}, place{0, 1}, false)
	sees(t, tab, place{0, 0}, place{0, 2}, true)
	sees(t, tab, place{0, 0}, place{1, 0}, true)
	sees(t, tab, place{0, 1}, place{1, 1}, true)
	sees(t, tab, place{1, 0}, place{1, 1}, false)
}

func TestNothingIsLeftOfTheGone(t *testing.T) {
	tab := New()
	tab.Open(0, 1)
	tab.Fork(0)
	tab.Close(0, 0)
	tab.Kill(1)
	if len(tab.under) != 0 {
		t.Errorf("descriptors are left: %v", tab.under)
	}
}

func TestFind(t *testing.T) {
	tab := New()
	tab.Open(0, 2)
	if o, f := tab.Find(0, 0); f != terms.OK || o.File() != 2 {
		t.Errorf("Find(0, 0) = %v, %d", o, f)
	}
	if o, f := tab.Find(0, 1); o != nil || f != terms.NoFd {
		t.Errorf("Find(0, 1) = %v, %d", o, f)
	}
	if o, f := tab.Find(1, 0); o != nil || f != terms.NoProc {
		t.Errorf("Find(1, 0) = %v, %d", o, f)
	}
}

func usersAre(t *testing.T, tab *Table, o *Opening, want ...int) {
	t.Helper()
	if got := tab.Users(o); !slices.Equal(got, want) || tab.InUse(o) != (len(want) > 0) {
		t.Errorf("Users = %v, InUse = %v, want %v", got, tab.InUse(o), want)
	}
}

func TestUsers(t *testing.T) {
	tab := New()
	tab.Open(0, 1)
	tab.Fork(0)
	tab.Open(0, 1)
	tab.Dup(0, 0)
	first, _ := tab.Find(0, 0)
	second, _ := tab.Find(0, 1)
	usersAre(t, tab, first, 0, 1)
	usersAre(t, tab, second, 0)
	if o, f := tab.Close(0, 0); o != first || f != terms.OK {
		t.Errorf("Close(0, 0) = %v, %d", o, f)
	}
	usersAre(t, tab, first, 0, 1)
	tab.Close(0, 2)
	usersAre(t, tab, first, 1)
	tab.Kill(1)
	usersAre(t, tab, first)
	tab.Close(0, 1)
	usersAre(t, tab, second)
}
