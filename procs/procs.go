// Package procs: the processes, and of which opening each of their descriptors is.
package procs

import (
	"holds/api"
	"holds/terms"
)

// Opening is known by its address: two of the same file are two.
type Opening struct {
	file int
}

// File tells of which file it is.
func (o *Opening) File() int { return o.file }

// place is where an opening is looked up.
type place struct {
	proc, fd int
}

// Table is the processes and their descriptors.
type Table struct {
	live  [api.MaxProcs]bool
	under map[place]*Opening
}

// New makes one with the process 0, without descriptors.
func New() *Table {
	t := &Table{under: map[place]*Opening{}}
	t.live[0] = true
	return t
}

// Fork makes a process with the descriptors of p, and tells its number.
func (t *Table) Fork(p int) (int, terms.Fault) {
	if f := t.check(p); f != terms.OK {
		return 0, f
	}
	child, ok := t.freeProc()
	if !ok {
		return 0, terms.Full
	}
	t.live[child] = true
	for fd := range api.MaxFds {
		if o, ok := t.under[place{p, fd}]; ok {
			t.under[place{child, fd}] = o
		}
	}
	return child, terms.OK
}

// Kill ends a process and takes its descriptors away.
func (t *Table) Kill(p int) terms.Fault {
	if f := t.check(p); f != terms.OK {
		return f
	}
	t.live[p] = false
	for fd := range api.MaxFds {
		delete(t.under, place{p, fd})
	}
	return terms.OK
}

// Open makes a new opening, and tells its descriptor.
func (t *Table) Open(p, file int) (int, terms.Fault) {
	if f := t.check(p); f != terms.OK {
		return 0, f
	}
	if file < 0 || file >= api.MaxFiles {
		return 0, terms.NoFile
	}
	return t.give(p, &Opening{file: file})
}

// Dup makes another descriptor of the opening that fd is of, and tells it.
func (t *Table) Dup(p, fd int) (int, terms.Fault) {
	o, f := t.Find(p, fd)
	if f != terms.OK {
		return 0, f
	}
	return t.give(p, o)
}

// Close takes a descriptor away, and tells of which opening it was.
func (t *Table) Close(p, fd int) (*Opening, terms.Fault) {
	o, f := t.Find(p, fd)
	if f == terms.OK {
		delete(t.under, place{p, fd})
	}
	return o, f
}

// Find tells of which opening a descriptor is.
func (t *Table) Find(p, fd int) (*Opening, terms.Fault) {
	if f := t.check(p); f != terms.OK {
		return nil, f
	}
	o, ok := t.under[place{p, fd}]
	if !ok {
		return nil, terms.NoFd
	}
	return o, terms.OK
}

// Users lists the processes that have a descriptor of an opening, rising, each once.
func (t *Table) Users(o *Opening) []int {
	var users []int
	for p := range api.MaxProcs {
		if t.has(p, o) {
			users = append(users, p)
		}
	}
	return users
}

// InUse tells whether there is a descriptor of an opening still.
func (t *Table) InUse(o *Opening) bool {
	return len(t.Users(o)) > 0
}

func (t *Table) has(p int, o *Opening) bool {
	for fd := range api.MaxFds {
		if t.under[place{p, fd}] == o {
			return true
		}
	}
	return false
}

func (t *Table) check(p int) terms.Fault {
	if p < 0 || p >= api.MaxProcs || !t.live[p] {
		return terms.NoProc
	}
	return terms.OK
}

func (t *Table) give(p int, o *Opening) (int, terms.Fault) {
	for fd := range api.MaxFds {
		at := place{p, fd}
		if _, ok := t.under[at]; !ok {
			t.under[at] = o
			return fd, terms.OK
		}
	}
	return 0, terms.Full
}

func (t *Table) freeProc() (int, bool) {
	for p, live := range t.live {
		if !live {
			return p, true
		}
	}
	return 0, false
}
