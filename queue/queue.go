// Package queue: the locks with which processes wait, in the order in which they were asked for.
package queue

import (
	"slices"

	"holds/runs"
	"holds/wholes"
)

// Ask is a lock that a process asks for: on positions of a file, or of the whole one. Of the two the one that it is not about is left empty: it is Free, and bites nothing.
type Ask struct {
	Proc, File int
	Run        runs.Run
	Whole      wholes.Lock
}

// OfWhole tells whether it is about the whole file.
func (a Ask) OfWhole() bool { return a.Whole.Owner != nil }

// List is what is waited with, one of a process at most. Its methods leave it as it is, so that a process may be thought of as one that waits before it does.
type List []Ask

// Has tells whether a process waits.
func (l List) Has(proc int) bool {
	return slices.Contains(l.Procs(), proc)
}

// Procs tells the processes that wait.
func (l List) Procs() []int {
	var procs []int
	for _, a := range l {
		procs = append(procs, a.Proc)
	}
	return procs
}

// With gives the list behind one more that waits.
func (l List) With(a Ask) List {
	return append(slices.Clone(l), a)
}

// Without gives the list behind the end of a process's waiting.
func (l List) Without(proc int) List {
	return slices.DeleteFunc(slices.Clone(l), func(a Ask) bool { return a.Proc == proc })
}

// Biters tells the processes that wait with a lock which bites the one asked for.
func (l List) Biters(asked Ask) []int {
	var procs []int
	for _, a := range l {
		if a.bites(asked) {
			procs = append(procs, a.Proc)
		}
	}
	return procs
}

func (a Ask) bites(b Ask) bool {
	return a.File == b.File && (a.Run.Bites(b.Run) || a.Whole.Bites(b.Whole))
}
