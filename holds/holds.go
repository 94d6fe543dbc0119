// Package holds: who may hold what: see DOC.md.
package holds

import (
	"sync"

	"holds/api"
	"holds/procs"
	"holds/queue"
	"holds/runs"
	"holds/terms"
	"holds/wholes"
)

// Kernel is processes, their openings of files, what is locked, and what is waited with.
type Kernel struct {
	guard sync.Mutex
	procs *procs.Table
	files [api.MaxFiles]locked
	queue queue.List
}

// locked is what is locked of a file: the two sorts have nothing to do with one another.
type locked struct {
	runs   runs.List
	wholes wholes.List
}

// New makes one with the process 0 (P3).
func New() *Kernel { return &Kernel{procs: procs.New()} }

// Fork makes a process that has what another one has (P3).
func (k *Kernel) Fork(p int) api.Reply {
	return k.call(p, func() (int, terms.Fault) { return k.procs.Fork(p) })
}

// Kill ends a process, one that waits too (P3).
func (k *Kernel) Kill(p int) api.Reply {
	k.guard.Lock()
	defer k.guard.Unlock()
	return k.answer(0, k.kill(p))
}

// Open opens a file (P4).
func (k *Kernel) Open(p int, file int) api.Reply {
	return k.call(p, func() (int, terms.Fault) { return k.procs.Open(p, file) })
}

// Dup makes another descriptor of an opening (P4).
func (k *Kernel) Dup(p int, fd int) api.Reply {
	return k.call(p, func() (int, terms.Fault) { return k.procs.Dup(p, fd) })
}

// Close takes a descriptor away (P4).
func (k *Kernel) Close(p int, fd int) api.Reply {
	return k.call(p, func() (int, terms.Fault) { return 0, k.shut(p, fd) })
}

// Lock locks positions, or frees them (P5).
func (k *Kernel) Lock(p int, fd int, kind int, from int, length int, wait bool) api.Reply {
	return k.call(p, func() (int, terms.Fault) { return 0, k.lock(p, fd, kind, from, length, wait) })
}

// Test tells who is in the way of a lock (P5).
func (k *Kernel) Test(p int, fd int, kind int, from int, length int) api.Reply {
	return k.call(p, func() (int, terms.Fault) { return k.test(p, fd, kind, from, length) })
}

// Whole locks a whole file, or frees it (P6).
func (k *Kernel) Whole(p int, fd int, kind int, wait bool) api.Reply {
	return k.call(p, func() (int, terms.Fault) { return 0, k.whole(p, fd, kind, wait) })
}

// Runs tells the locked positions of a file (P8).
func (k *Kernel) Runs(file int) []api.Run {
	k.guard.Lock()
	defer k.guard.Unlock()
	return k.tellRuns(file)
}

// Holds tells the locks of a whole file (P8).
func (k *Kernel) Holds(file int) []api.Hold {
	k.guard.Lock()
	defer k.guard.Unlock()
	return k.tellWholes(file)
}

// Waiting tells the processes that wait (P8).
func (k *Kernel) Waiting() []int {
	k.guard.Lock()
	defer k.guard.Unlock()
	return k.queue.Procs()
}

// call answers a process that may not wait meanwhile. Who waits is there, so Blocked can not hide NoProc.
func (k *Kernel) call(p int, do func() (int, terms.Fault)) api.Reply {
	k.guard.Lock()
	defer k.guard.Unlock()
	if k.queue.Has(p) {
		return k.answer(0, terms.Blocked)
	}
	return k.answer(do())
}
