package runs

import (
	"math"
	"slices"
	"testing"

	"holds/terms"
)

const (
	free   = terms.Free
	shared = terms.Shared
	alone  = terms.Alone
)

func TestBounds(t *testing.T) {
	for _, c := range []struct {
		from, length, first, last int
		ok                        bool
	}{
		{0, 0, 0, 63, true}, {63, 0, 63, 63, true}, {64, 0, 0, 0, false}, {-1, 0, 0, 0, false},
		{0, 1, 0, 0, true}, {0, 64, 0, 63, true}, {0, 65, 0, 0, false}, {63, 1, 63, 63, true}, {63, 2, 0, 0, false}, {64, 1, 0, 0, false}, {-1, 1, 0, 0, false}, {-1, 2, 0, 0, false},
		{1, -1, 0, 0, true}, {64, -1, 63, 63, true}, {64, -64, 0, 63, true}, {64, -65, 0, 0, false}, {65, -1, 0, 0, false}, {65, -65, 0, 0, false}, {0, -1, 0, 0, false}, {5, -6, 0, 0, false}, {5, -5, 0, 4, true},
	} {
		first, last, ok := Bounds(c.from, c.length)
		if first != c.first || last != c.last || ok != c.ok {
			t.Errorf("Bounds(%d, %d) = %d, %d, %v", c.from, c.length, first, last, ok)
		}
	}
}

func TestBoundsFarAway(t *testing.T) {
	far := []int{math.MinInt, math.MinInt + 1, math.MinInt + 63, -1 << 32, 1 << 32, math.MaxInt - 63, math.MaxInt - 1, math.MaxInt}
	near := []int{-1, 0, 1, 5, 63, 64}
	for _, a := range far {
		for _, b := range append(near, far...) {
			if _, _, ok := Bounds(a, b); ok {
				t.Errorf("Bounds(%d, %d) has positions", a, b)
			}
			if _, _, ok := Bounds(b, a); ok {
				t.Errorf("Bounds(%d, %d) has positions", b, a)
			}
		}
	}
}

func TestSet(t *testing.T) {
	for _, c := range []struct {
		name  string
		start List
		set   Run
		want  List
	}{
		{"into nothing", nil, Run{0, shared, 3, 5}, List{{0, shared, 3, 5}}},
		{"nothing freed", nil, Run{0, free, 3, 5}, nil},
		{"the middle freed", List{{0, alone, 0, 9}}, Run{0, free, 4, 5}, List{{0, alone, 0, 3}, {0, alone, 6, 9}}},
		{"the first end freed", List{{0, alone, 2, 9}}, Run{0, free, 0, 2}, List{{0, alone, 3, 9}}},
		{"the last end freed", List{{0, alone, 2, 9}}, Run{0, free, 9, 12}, List{{0, alone, 2, 8}}},
		{"all freed", List{{0, alone, 2, 9}}, Run{0, free, 2, 9}, nil},
		{"another's stays", List{{0, shared, 2, 9}, {1, shared, 2, 9}}, Run{0, free, 0, 63}, List{{1, shared, 2, 9}}},
		{"joined to the run ahead", List{{0, shared, 2, 4}}, Run{0, shared, 5, 6}, List{{0, shared, 2, 6}}},
		{"joined to the run behind", List{{0, shared, 5, 6}}, Run{0, shared, 2, 4}, List{{0, shared, 2, 6}}},
		{"joined to both", List{{0, shared, 0, 1}, {0, shared, 3, 4}}, Run{0, shared, 2, 2}, List{{0, shared, 0, 4}}},
		{"a gap stays", List{{0, shared, 0, 1}}, Run{0, shared, 3, 3}, List{{0, shared, 0, 1}, {0, shared, 3, 3}}},
		{"another kind is not joined", List{{0, shared, 0, 1}}, Run{0, alone, 2, 2}, List{{0, shared, 0, 1}, {0, alone, 2, 2}}},
		{"another process is not joined", List{{1, shared, 0, 1}}, Run{0, shared, 2, 2}, List{{1, shared, 0, 1}, {0, shared, 2, 2}}},
		{"another kind in the middle", List{{0, shared, 0, 9}}, Run{0, alone, 4, 5}, List{{0, shared, 0, 3}, {0, alone, 4, 5}, {0, shared, 6, 9}}},
		{"the same kind in the middle", List{{0, shared, 0, 9}}, Run{0, shared, 4, 5}, List{{0, shared, 0, 9}}},
		{"over several", List{{0, shared, 0, 3}, {0, alone, 4, 5}, {0, shared, 8, 9}}, Run{0, shared, 2, 8}, List{{0, shared, 0, 9}}},
		{"same start by process", List{{0, shared, 4, 5}, {2, shared, 4, 9}}, Run{1, shared, 4, 4}, List{{0, shared, 4, 5}, {1, shared, 4, 4}, {2, shared, 4, 9}}},
		{"the rest behind another's start", List{{0, shared, 0, 20}, {1, shared, 5, 10}}, Run{0, free, 3, 7}, List{{0, shared, 0, 2}, {1, shared, 5, 10}, {0, shared, 8, 20}}},
	} {
		before := slices.Clone(c.start)
		if got := c.start.Set(c.set); !slices.Equal(got, c.want) {
			t.Errorf("%s: %v, want %v", c.name, got, c.want)
		}
		if !slices.Equal(before, c.start) {
			t.Errorf("%s: the list itself is changed: %v", c.name, c.start)
		}
	}
}

func TestWithout(t *testing.T) {
	l := List{{0, shared, 0, 0}, {1, shared, 0, 63}, {0, alone, 63, 63}}
	if got := l.Without(0); !slices.Equal(got, List{{1, shared, 0, 63}}) {
		t.Errorf("Without(0) = %v", got)
	}
	if got := l.Without(2); !slices.Equal(got, l) {
		t.Errorf("Without(2) = %v", got)
	}
}

func TestBiters(t *testing.T) {
	l := List{{4, shared, 0, 5}, {1, shared, 5, 9}, {2, alone, 20, 29}, {1, shared, 40, 40}}
	for _, c := range []struct {
		asked Run
		who   []int
	}{
		{Run{0, shared, 0, 19}, nil}, {Run{0, alone, 0, 4}, []int{4}}, {Run{0, alone, 0, 5}, []int{1, 4}}, {Run{0, alone, 9, 30}, []int{1, 2}},
		{Run{0, alone, 10, 19}, nil}, {Run{0, shared, 10, 20}, []int{2}}, {Run{0, shared, 29, 29}, []int{2}}, {Run{0, shared, 30, 30}, nil},
		{Run{1, alone, 5, 9}, []int{4}}, {Run{1, alone, 6, 9}, nil}, {Run{2, alone, 10, 39}, nil}, {Run{0, free, 0, 63}, nil},
		{Run{0, alone, 0, 63}, []int{1, 2, 4}},
	} {
		if who := l.Biters(c.asked); !slices.Equal(who, c.who) {
			t.Errorf("Biters(%v) = %v, want %v", c.asked, who, c.who)
		}
	}
}
