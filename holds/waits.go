package holds

import (
	"holds/api"
	"holds/queue"
	"holds/stuck"
	"holds/terms"
)

// The functions of this file are called while the guard is held.

// ask gives a lock, or lets the process wait for it. Nothing is ever in the way of Free.
func (k *Kernel) ask(a queue.Ask, wait bool) terms.Fault {
	if len(k.ways(a, k.queue)) == 0 {
		return k.give(a)
	}
	if !wait {
		return terms.Busy
	}
	next := k.queue.With(a)
	// The one who asks has asked last, so it stands last among the stuck, if it is one of them.
	if last, ok := k.lastStuck(next); ok && last == a.Proc {
		return terms.Deadlock
	}
	k.queue = next
	return terms.Pending
}

// give wants that nothing is in the way of the lock.
func (k *Kernel) give(a queue.Ask) terms.Fault {
	at := &k.files[a.File]
	if a.OfWhole() {
		at.wholes = at.wholes.Set(a.Whole)
		return terms.OK
	}
	next := at.runs.Set(a.Run)
	if len(next) > api.MaxRuns {
		return terms.Table
	}
	at.runs = next
	return terms.OK
}

// ways tells of each thing in the way of a lock which processes could let it go.
func (k *Kernel) ways(a queue.Ask, ahead queue.List) [][]int {
	var ways [][]int
	at := k.files[a.File]
	for _, p := range at.runs.Biters(a.Run) {
		ways = append(ways, []int{p})
	}
	for _, owner := range at.wholes.Biters(a.Whole) {
		ways = append(ways, k.procs.Users(owner))
	}
	for _, p := range ahead.Biters(a) {
		ways = append(ways, []int{p})
	}
	return ways
}

// settle ends the waiting of one after the other, as long as there is one whose waiting is at its end.
func (k *Kernel) settle() []api.Done {
	var done []api.Done
	for {
		p, f, ok := k.wake()
		if !ok {
			return done
		}
		k.queue = k.queue.Without(p)
		done = append(done, api.Done{Proc: p, Err: api.Errno(f)})
	}
}

// wake finds whose waiting ends next, and how; it gives the lock, if that is how.
func (k *Kernel) wake() (int, terms.Fault, bool) {
	for i, a := range k.queue {
		if len(k.ways(a, k.queue[:i])) == 0 {
			return a.Proc, k.give(a), true
		}
	}
	p, ok := k.lastStuck(k.queue)
	return p, terms.Deadlock, ok
}

// lastStuck tells who asked last of the greatest stuck set, if those of the list wait.
func (k *Kernel) lastStuck(list queue.List) (int, bool) {
	var waiters []stuck.Waiter
	for i, a := range list {
		waiters = append(waiters, stuck.Waiter{Proc: a.Proc, Ways: k.ways(a, list[:i])})
	}
	set := stuck.Greatest(waiters)
	if len(set) == 0 {
		return 0, false
	}
	return set[len(set)-1].Proc, true
}
