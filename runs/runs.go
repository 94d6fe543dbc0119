// Package runs: the locked positions of one file, as a sorted list of runs.
package runs

import (
	"cmp"
	"slices"

	"holds/api"
	"holds/terms"
)

// Run is positions, both ends with them, and a process's lock on them; one that is asked for has the same shape.
type Run struct {
	Proc     int
	Kind     terms.Kind
	From, To int
}

// List is the runs of a file by their first positions, then by their processes. Its methods leave it as it is, so that a change may be weighed before it is kept.
type List []Run

// Bounds tells the first and the last position of a range; false, if it has none or one that no file has.
func Bounds(from, length int) (first, last int, ok bool) {
	const size = api.MaxPos + 1
	// Far numbers go ahead of any sum, which could wrap round.
	if from < 0 || from > size || length < -size || length > size {
		return 0, 0, false
	}
	switch {
	case length == 0:
		first, last = from, api.MaxPos
	case length > 0:
		first, last = from, from+length-1
	default:
		first, last = from+length, from-1
	}
	if first < 0 || last > api.MaxPos || first > last {
		return 0, 0, false
	}
	return first, last, true
}

// Biters tells the processes that have a lock which bites the one asked for, rising, each once.
func (l List) Biters(asked Run) []int {
	var procs []int
	for _, r := range l {
		if r.Bites(asked) {
			procs = append(procs, r.Proc)
		}
	}
	slices.Sort(procs)
	return slices.Compact(procs)
}

// Set gives the list behind a lock that came, or behind one that went, if its kind is Free.
func (l List) Set(r Run) List {
	rest := l.cut(r)
	if r.Kind == terms.Free {
		return rest
	}
	return rest.join(r)
}

// Without gives the list behind the end of all locks of a process.
func (l List) Without(proc int) List {
	return l.cut(Run{Proc: proc, From: 0, To: api.MaxPos})
}

func (l List) cut(hole Run) List {
	var rest List
	for _, r := range l {
		if r.Proc != hole.Proc || !r.meets(hole) {
			rest = rest.insert(r)
			continue
		}
		if r.From < hole.From {
			rest = rest.insert(Run{r.Proc, r.Kind, r.From, hole.From - 1})
		}
		if r.To > hole.To {
			rest = rest.insert(Run{r.Proc, r.Kind, hole.To + 1, r.To})
		}
	}
	return rest
}

// join wants a list in which the process has nothing on the positions of the new run: what is left to take in lies side by side with it.
func (l List) join(r Run) List {
	var rest List
	for _, o := range l {
		if !o.continues(r) {
			rest = rest.insert(o)
			continue
		}
		r.From = min(r.From, o.From)
		r.To = max(r.To, o.To)
	}
	return rest.insert(r)
}

// insert may write into the list's own memory: only for a list that is still being made.
func (l List) insert(r Run) List {
	i, _ := slices.BinarySearchFunc(l, r, order)
	return slices.Insert(l, i, r)
}

func order(a, b Run) int {
	return cmp.Or(cmp.Compare(a.From, b.From), cmp.Compare(a.Proc, b.Proc))
}

func (r Run) meets(o Run) bool {
	return r.From <= o.To && o.From <= r.To
}

// Bites wants two of the same file.
func (r Run) Bites(o Run) bool {
	return r.Proc != o.Proc && r.meets(o) && terms.Bite(r.Kind, o.Kind)
}

func (r Run) continues(o Run) bool {
	if r.Proc != o.Proc || r.Kind != o.Kind {
		return false
	}
	return r.To+1 == o.From || o.To+1 == r.From
}
