package procs

import (
	"testing"

	"holds/terms"
)

// sees fails unless the descriptors are of one opening, or of two.
func sees(t *testing.T, tab *Table, a, b place, same bool) {
	t.Helper()
	x, y := tab.under[a], tab.under[b]
	if x == nil || y == nil || (x == y) != same {
		t.Errorf("%v and %v: one opening is not %v", a, b, same)
	}
}

func TestOpeningsAreShared(t *testing.T) {
	tab := New()
	tab.Open(0, 1)
	tab.Open(0, 1)
	tab.Dup(0, 0)
	tab.Fork(0)
	sees(t, tab, place{0, 0}, place{0, 1}, false)
	sees(t, tab, place{0, 0}, place{0, 2}, true)
	sees(t, tab, place{0, 0}, place{1, 0}, true)
	sees(t, tab, place{0, 1}, place{1, 1}, true)
	sees(t, tab, place{1, 0}, place{1, 1}, false)
}

func TestNothingIsLeftOfTheGone(t *testing.T) {
	tab := New()
	tab.Open(0, 1)
	tab.Fork(0)
	tab.Close(0, 0)
	tab.Kill(1)
	if len(tab.under) != 0 {
		t.Errorf("descriptors are left: %v", tab.under)
	}
}

func TestFile(t *testing.T) {
	tab := New()
	tab.Open(0, 2)
	if file, f := tab.File(0, 0); file != 2 || f != terms.OK {
		t.Errorf("File(0, 0) = %d, %d", file, f)
	}
	if file, f := tab.File(0, 1); file != 0 || f != terms.NoFd {
		t.Errorf("File(0, 1) = %d, %d", file, f)
	}
	if file, f := tab.File(1, 0); file != 0 || f != terms.NoProc {
		t.Errorf("File(1, 0) = %d, %d", file, f)
	}
}
