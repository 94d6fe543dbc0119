// Package terms: the kinds of locks and the errors as the inside of the program knows them.
package terms

// Kind is a kind of lock. The order is that of package api, so that a number of one is the same number of the other.
type Kind int

const (
	Free Kind = iota
	Shared
	Alone
)

// Fault is how a call ends. The order is that of api.Errno.
type Fault int

const (
	OK Fault = iota
	NoProc
	Blocked
	Full
	NoFile
	NoFd
	NoKind
	NoRange
	Busy
	Table
	Deadlock
	Pending
)

// KindOf takes a number from outside; false, if it is no kind's.
func KindOf(number int) (Kind, bool) {
	if number < int(Free) || number > int(Alone) {
		return Free, false
	}
	return Kind(number), true
}

// Bite tells whether locks of these kinds, of different owners, can not stand side by side.
func Bite(a, b Kind) bool {
	if a == Free || b == Free {
		return false
	}
	return a == Alone || b == Alone
}
