// Package wholes: the locks of one whole file, in turn.
package wholes

import (
	"cmp"
	"slices"

	"holds/procs"
	"holds/terms"
)

// Lock is an opening's; one that is asked for has the same shape. Its turn counts when it was asked for.
type Lock struct {
	Owner *procs.Opening
	Kind  terms.Kind
	Turn  int
}

// List is the locks of a whole file by their turns: who waited for one has the place that it had when it asked. Its methods leave it as it is.
type List []Lock

// Biters tells the openings that have a lock which bites the one asked for.
func (l List) Biters(asked Lock) []*procs.Opening {
	var owners []*procs.Opening
	for _, held := range l {
		if held.Bites(asked) {
			owners = append(owners, held.Owner)
		}
	}
	return owners
}

// Set gives the list behind a lock that came, or behind one that went, if its kind is Free.
func (l List) Set(asked Lock) List {
	// The same lock once more keeps its place.
	if slices.ContainsFunc(l, asked.same) {
		return l
	}
	rest := l.Keep(func(o *procs.Opening) bool { return o != asked.Owner })
	if asked.Kind == terms.Free {
		return rest
	}
	i, _ := slices.BinarySearchFunc(rest, asked, order)
	return slices.Insert(rest, i, asked)
}

// Keep gives the list with the locks of those owners alone that stay.
func (l List) Keep(stays func(*procs.Opening) bool) List {
	var rest List
	for _, held := range l {
		if stays(held.Owner) {
			rest = append(rest, held)
		}
	}
	return rest
}

// Bites wants two of the same file.
func (a Lock) Bites(b Lock) bool {
	return a.Owner != b.Owner && terms.Bite(a.Kind, b.Kind)
}

func (a Lock) same(b Lock) bool {
	return a.Owner == b.Owner && a.Kind == b.Kind
}

func order(a, b Lock) int {
	return cmp.Compare(a.Turn, b.Turn)
}
