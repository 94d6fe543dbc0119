package holds_test

import (
	"math"
	"slices"
	"testing"

	"holds/api"
	"holds/holds"
)

const (
	free   = api.Free
	shared = api.Shared
	alone  = api.Alone
)

var wild = []int{math.MinInt, math.MinInt + 1, -1 << 32, -65, -64, -1, 0, 1, 2, 3, 5, 6, 63, 64, 65, 1 << 32, math.MaxInt - 1, math.MaxInt}

func is(t *testing.T, what string, r api.Reply, e api.Errno, n int, done ...api.Done) {
	t.Helper()
	if r.Err != e || r.N != n || !slices.Equal(r.Done, done) {
		t.Errorf("%s = %+v, want error %d, N %d and Done %v", what, r, e, n, done)
	}
}

func done(p int, e api.Errno) api.Done {
	return api.Done{Proc: p, Err: e}
}

func waitingAre(t *testing.T, k *holds.Kernel, want ...int) {
	t.Helper()
	if got := k.Waiting(); !slices.Equal(got, want) {
		t.Errorf("Waiting() = %v, want %v", got, want)
	}
}

func runsAre(t *testing.T, k *holds.Kernel, file int, want ...api.Run) {
	t.Helper()
	if got := k.Runs(file); !slices.Equal(got, want) {
		t.Errorf("Runs(%d) = %v, want %v", file, got, want)
	}
}

func hold(kind int, procs ...int) api.Hold {
	return api.Hold{Kind: kind, Procs: procs}
}

func sameHold(a, b api.Hold) bool {
	return a.Kind == b.Kind && slices.Equal(a.Procs, b.Procs)
}

func holdsAre(t *testing.T, k *holds.Kernel, file int, want ...api.Hold) {
	t.Helper()
	if got := k.Holds(file); !slices.EqualFunc(got, want, sameHold) {
		t.Errorf("Holds(%d) = %v, want %v", file, got, want)
	}
}

// family has file 0 opened as descriptor 0 of so many processes.
func family(count int) *holds.Kernel {
	k := holds.New()
	k.Open(0, 0)
	for range count - 1 {
		k.Fork(0)
	}
	return k
}

// apart has file 0 opened by so many processes, each for itself, as descriptor 0.
func apart(count int) *holds.Kernel {
	k := holds.New()
	for range count - 1 {
		k.Fork(0)
	}
	for p := range count {
		k.Open(p, 0)
	}
	return k
}
