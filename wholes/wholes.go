// Package wholes: the locks of one whole file, in the order in which they were got.
package wholes

import (
	"slices"

	"holds/procs"
	"holds/terms"
)

// Lock is an opening's; one that is asked for has the same shape.
type Lock struct {
	Owner *procs.Opening
	Kind  terms.Kind
}

// List is the locks of a whole file in the order in which they were got, or got another kind, last; how long one was waited for does not matter. Its methods leave it as it is.
type List []Lock

// Biters tells the openings that have a lock which bites the one asked for.
func (l List) Biters(asked Lock) []*procs.Opening {
	var owners []*procs.Opening
	for _, held := range l {
		if held.Bites(asked) {
			owners = append(owners, held.Owner)
		}
	}
	return owners
}

// Set gives the list behind a lock that came, or behind one that went, if its kind is Free.
func (l List) Set(asked Lock) List {
	// The same lock once more keeps its place.
	if slices.Contains(l, asked) {
		return l
	}
	rest := l.Keep(func(o *procs.Opening) bool { return o != asked.Owner })
	if asked.Kind == terms.Free {
		return rest
	}
	return append(rest, asked)
}

// Keep gives the list with the locks of those owners alone that stay.
func (l List) Keep(stays func(*procs.Opening) bool) List {
	var rest List
	for _, held := range l {
		if stays(held.Owner) {
			rest = append(rest, held)
		}
	}
	return rest
}

// Bites wants two of the same file.
func (a Lock) Bites(b Lock) bool {
	return a.Owner != b.Owner && terms.Bite(a.Kind, b.Kind)
}
