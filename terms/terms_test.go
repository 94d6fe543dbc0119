package terms

import (
	"math"
	"testing"

	"holds/api"
)

func TestNumbersAreThoseOfApi(t *testing.T) {
	kinds := map[Kind]int{Free: api.Free, Shared: api.Shared, Alone: api.Alone}
	for in, out := range kinds {
		if int(in) != out {
			t.Errorf("kind %d inside is %d outside", in, out)
		}
	}
	faults := map[Fault]api.Errno{
		OK: api.OK, NoProc: api.ErrProc, Blocked: api.ErrBlocked, Full: api.ErrFull,
		NoFile: api.ErrFile, NoFd: api.ErrFd, NoKind: api.ErrKind, NoRange: api.ErrRange,
		Busy: api.ErrBusy, Table: api.ErrTable, Deadlock: api.ErrDeadlock, Pending: api.Pending,
	}
	for in, out := range faults {
		if int(in) != int(out) {
			t.Errorf("fault %d inside is %d outside", in, out)
		}
	}
}

func TestKindOf(t *testing.T) {
	for number := range 3 {
		if k, ok := KindOf(number); !ok || int(k) != number {
			t.Errorf("KindOf(%d) = %d, %v", number, k, ok)
		}
	}
	for _, number := range []int{-1, 3, 256, 1 << 32, math.MinInt, math.MaxInt} {
		if k, ok := KindOf(number); ok || k != Free {
			t.Errorf("KindOf(%d) = %d, %v", number, k, ok)
		}
	}
}

func TestBite(t *testing.T) {
	want := [3][3]bool{Shared: {Alone: true}, Alone: {Shared: true, Alone: true}}
	for a, row := range want {
		for b, bites := range row {
			if Bite(Kind(a), Kind(b)) != bites {
				t.Errorf("Bite(%d, %d) is not %v", a, b, bites)
			}
		}
	}
}
