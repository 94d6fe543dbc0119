package stuck

import (
	"math/rand"
	"slices"
	"testing"
)

func TestGreatest(t *testing.T) {
	for _, c := range []struct {
		what    string
		waiters []Waiter
		want    []int
	}{
		{"nobody", nil, nil},
		{"one behind a free one", []Waiter{{1, [][]int{{0}}}}, nil},
		{"one behind itself", []Waiter{{1, [][]int{{1}}}}, []int{1}},
		{"one behind nothing", []Waiter{{1, nil}}, nil},
		{"a circle of two", []Waiter{{3, [][]int{{1}}}, {1, [][]int{{3}}}}, []int{3, 1}},
		{"a circle of three", []Waiter{{3, [][]int{{1}}}, {1, [][]int{{0}}}, {0, [][]int{{3}}}}, []int{3, 1, 0}},
		{"a row", []Waiter{{1, [][]int{{0}}}, {2, [][]int{{1}}}, {3, [][]int{{2}}}}, nil},
		{"behind a circle", []Waiter{{1, [][]int{{2}}}, {2, [][]int{{1}}}, {3, [][]int{{2}}}, {4, [][]int{{0}}}}, []int{1, 2, 3}},
		{"two circles", []Waiter{{1, [][]int{{2}}}, {3, [][]int{{4}}}, {2, [][]int{{1}}}, {4, [][]int{{3}}}}, []int{1, 3, 2, 4}},
		{"one thing of several is enough", []Waiter{{1, [][]int{{0}, {2}, {5}}}, {2, [][]int{{1}}}}, []int{1, 2}},
		{"one of several could", []Waiter{{1, [][]int{{0, 2}}}, {2, [][]int{{1}}}}, nil},
		{"all of several are stuck", []Waiter{{1, [][]int{{1, 2}}}, {2, [][]int{{1}}}}, []int{1, 2}},
		{"each thing by one who is free", []Waiter{{1, [][]int{{0, 1}, {2}}}, {2, [][]int{{0}, {1, 3}}}}, nil},
	} {
		if got := numbers(Greatest(c.waiters)); !slices.Equal(got, c.want) {
			t.Errorf("%s: %v, want %v", c.what, got, c.want)
		}
	}
}

func numbers(set []Waiter) []int {
	var out []int
	for _, w := range set {
		out = append(out, w.Proc)
	}
	return out
}

// The document's words, said of each set there is: what is in one that is stuck is in the greatest.
func TestGreatestAgainstAllSets(t *testing.T) {
	r := rand.New(rand.NewSource(1))
	for range 5000 {
		waiters := drawn(r)
		var in [6]bool
		for bits := range 1 << len(waiters) {
			if set := pick(waiters, bits); isStuck(set) {
				for _, w := range set {
					in[w.Proc] = true
				}
			}
		}
		want := slices.DeleteFunc(numbers(waiters), func(p int) bool { return !in[p] })
		if got := numbers(Greatest(waiters)); !slices.Equal(got, want) {
			t.Fatalf("%v: %v, want %v", waiters, got, want)
		}
	}
}

func drawn(r *rand.Rand) []Waiter {
	var out []Waiter
	for _, p := range r.Perm(6)[:r.Intn(7)] {
		w := Waiter{Proc: p}
		for range 1 + r.Intn(2) {
			w.Ways = append(w.Ways, r.Perm(6)[:1+r.Intn(2)])
		}
		out = append(out, w)
	}
	return out
}

func pick(waiters []Waiter, bits int) []Waiter {
	var out []Waiter
	for i, w := range waiters {
		if bits>>i&1 == 1 {
			out = append(out, w)
		}
	}
	return out
}

func isStuck(set []Waiter) bool {
	in := numbers(set)
	for _, w := range set {
		held := false
		for _, could := range w.Ways {
			outside := slices.ContainsFunc(could, func(p int) bool { return !slices.Contains(in, p) })
			held = held || !outside
		}
		if !held {
			return false
		}
	}
	return true
}
