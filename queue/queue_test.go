package queue

import (
	"slices"
	"testing"

	"holds/procs"
	"holds/runs"
	"holds/terms"
	"holds/wholes"
)

func positions(proc, file int, kind terms.Kind, from, to int) Ask {
	return Ask{Proc: proc, File: file, Run: runs.Run{Proc: proc, Kind: kind, From: from, To: to}}
}

func whole(proc int, owner *procs.Opening, kind terms.Kind) Ask {
	return Ask{Proc: proc, File: owner.File(), Whole: wholes.Lock{Owner: owner, Kind: kind}}
}

func procsAre(t *testing.T, what string, got []int, want ...int) {
	t.Helper()
	if !slices.Equal(got, want) {
		t.Errorf("%s: %v, want %v", what, got, want)
	}
}

func TestList(t *testing.T) {
	a, b, c := positions(4, 0, terms.Alone, 0, 1), positions(0, 0, terms.Alone, 0, 1), positions(2, 0, terms.Alone, 0, 1)
	none := List(nil)
	three := none.With(a).With(b).With(c)
	procsAre(t, "nobody", none.Procs())
	procsAre(t, "three", three.Procs(), 4, 0, 2)
	procsAre(t, "without 0", three.Without(0).Procs(), 4, 2)
	procsAre(t, "without 5", three.Without(5).Procs(), 4, 0, 2)
	procsAre(t, "the list itself", three.Procs(), 4, 0, 2)
	// Two that come behind the same list must not share its spare room.
	two := three.Without(2)
	x, y := two.With(a), two.With(c)
	procsAre(t, "the one", x.Procs(), 4, 0, 4)
	procsAre(t, "the other", y.Procs(), 4, 0, 2)
	for p := range 6 {
		if three.Has(p) != (p%2 == 0) || none.Has(p) {
			t.Errorf("Has(%d) = %v", p, three.Has(p))
		}
	}
}

func TestBiters(t *testing.T) {
	tab := procs.New()
	tab.Open(0, 0)
	tab.Open(0, 0)
	tab.Open(0, 1)
	o, other, far := find(tab, 0), find(tab, 1), find(tab, 2)
	list := List{
		positions(5, 0, terms.Alone, 10, 19), positions(1, 0, terms.Shared, 15, 29), positions(2, 1, terms.Alone, 0, 63),
		whole(3, o, terms.Alone), whole(4, far, terms.Shared),
	}
	for _, c := range []struct {
		what  string
		asked Ask
		want  []int
	}{
		{"beside Shared", positions(0, 0, terms.Shared, 20, 29), nil},
		{"on Alone", positions(0, 0, terms.Shared, 19, 29), []int{5}},
		{"on both", positions(0, 0, terms.Alone, 0, 63), []int{5, 1}},
		{"its own", positions(5, 0, terms.Alone, 10, 14), nil},
		{"another file", positions(0, 2, terms.Alone, 0, 63), nil},
		{"Free", positions(0, 0, terms.Free, 0, 63), nil},
		{"the same opening", whole(0, o, terms.Alone), nil},
		{"another opening", whole(3, other, terms.Shared), []int{3}},
		{"Shared beside Shared", whole(0, far, terms.Shared), nil},
		{"Free of the whole", whole(0, other, terms.Free), nil},
	} {
		procsAre(t, c.what, list.Biters(c.asked), c.want...)
	}
}

func find(tab *procs.Table, fd int) *procs.Opening {
	o, _ := tab.Find(0, fd)
	return o
}

func TestOfWhole(t *testing.T) {
	tab := procs.New()
	tab.Open(0, 0)
	if positions(0, 0, terms.Alone, 0, 1).OfWhole() || !whole(0, find(tab, 0), terms.Free).OfWhole() {
		t.Error("the sorts are mixed up")
	}
}
