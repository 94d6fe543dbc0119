// Package stuck: which of those that wait would wait without end.
package stuck

import "slices"

// Waiter is a process that waits, and for each thing in its way the processes that could let it go.
type Waiter struct {
	Proc int
	Ways [][]int
}

// Greatest gives the greatest set of waiters each of which has something in its way that only processes of the set could let go, in the order in which they came in.
func Greatest(waiters []Waiter) []Waiter {
	// Who is free of a set is free of each set within it: so one after the other may be left out until all that are left are stuck.
	for {
		rest := bound(waiters)
		if len(rest) == len(waiters) {
			return rest
		}
		waiters = rest
	}
}

// bound gives the waiters of a set that only the set could let go on.
func bound(set []Waiter) []Waiter {
	var rest []Waiter
	for _, w := range set {
		if w.boundBy(set) {
			rest = append(rest, w)
		}
	}
	return rest
}

func (w Waiter) boundBy(set []Waiter) bool {
	return slices.ContainsFunc(w.Ways, func(could []int) bool { return allOf(could, set) })
}

func allOf(procs []int, set []Waiter) bool {
	for _, p := range procs {
		if !slices.ContainsFunc(set, func(w Waiter) bool { return w.Proc == p }) {
			return false
		}
	}
	return true
}
