package holds_test

import (
	"math/rand"
	"slices"
	"testing"

	"holds/api"
	"holds/holds"
)

// numbers are those of a drawn call.
type numbers struct {
	p, fd, file, kind, from, length int
	wait                            bool
}

// wide draws some that are wrong.
func wide(r *rand.Rand) numbers {
	n := numbers{r.Intn(7) - r.Intn(2), r.Intn(6) - r.Intn(2), r.Intn(4) - r.Intn(2), r.Intn(4) - r.Intn(2), r.Intn(66) - r.Intn(2), r.Intn(12) - r.Intn(12), r.Intn(4) == 0}
	if r.Intn(3) > 0 {
		n.p, n.fd = r.Intn(3), r.Intn(3)
	}
	return n
}

// narrow draws such that are in one another's way.
func narrow(r *rand.Rand) numbers {
	return numbers{r.Intn(6), r.Intn(3), r.Intn(2), r.Intn(3), 2 * r.Intn(15), 1 + r.Intn(2)*r.Intn(12), r.Intn(5) > 0}
}

// scattered draws such that make many short runs.
func scattered(r *rand.Rand) numbers {
	kind := []int{free, shared, shared, shared, shared, shared, shared, alone}[r.Intn(8)]
	return numbers{r.Intn(5), r.Intn(2), 0, kind, 2 * r.Intn(9), 1, r.Intn(8) > 0}
}

// pair is a kernel and what the document says of it.
type pair struct {
	k *holds.Kernel
	m *model
}

// crowd has so many children of the process 0, each with an opening that is common to all and with one of its own.
func crowd(children int) pair {
	b := pair{holds.New(), &model{}}
	b.m.live[0] = true
	b.k.Open(0, 0)
	b.m.open(0, 0)
	for range children {
		child := b.k.Fork(0).N
		b.m.fork(0)
		b.k.Open(child, 0)
		b.m.open(child, 0)
	}
	return b
}

// tally counts how calls, and how waiting, ended.
type tally struct {
	told, ended [api.Pending + 1]int
}

func (c *tally) count(r api.Reply) {
	c.told[r.Err]++
	for _, d := range r.Done {
		c.ended[d.Err]++
	}
}

// step makes the same drawn call of both, and gives the answer.
func (b *pair) step(t *testing.T, r *rand.Rand, n numbers) api.Reply {
	var got, want api.Reply
	switch which := r.Intn(50); {
	case which < 3:
		got, want = b.k.Fork(n.p), b.m.fork(n.p)
	case which < 4:
		got, want = b.k.Kill(n.p), b.m.kill(n.p)
	case which < 8:
		got, want = b.k.Open(n.p, n.file), b.m.open(n.p, n.file)
	case which < 9:
		got, want = b.k.Dup(n.p, n.fd), b.m.dup(n.p, n.fd)
	case which < 11:
		got, want = b.k.Close(n.p, n.fd), b.m.close(n.p, n.fd)
	case which < 14:
		got, want = b.k.Test(n.p, n.fd, n.kind, n.from, n.length), b.m.test(n.p, n.fd, n.kind, n.from, n.length)
	case which < 26:
		got, want = b.k.Whole(n.p, n.fd, n.kind, n.wait), b.m.whole(n.p, n.fd, n.kind, n.wait)
	default:
		got, want = b.k.Lock(n.p, n.fd, n.kind, n.from, n.length, n.wait), b.m.lock(n.p, n.fd, n.kind, n.from, n.length, n.wait)
	}
	is(t, "a drawn call", got, want.Err, want.N, want.Done...)
	b.same(t)
	return got
}

func (b *pair) same(t *testing.T) {
	t.Helper()
	for f := range api.MaxFiles {
		runsAre(t, b.k, f, b.m.runs(f)...)
		holdsAre(t, b.k, f, b.m.holds(f)...)
	}
	waitingAre(t, b.k, b.m.waiting()...)
}

func (c *tally) drawnCalls(t *testing.T, seeds int, draw func(*rand.Rand) numbers) {
	t.Helper()
	for seed := range int64(seeds) {
		r := rand.New(rand.NewSource(seed))
		b := crowd(r.Intn(api.MaxProcs))
		for range 300 {
			c.count(b.step(t, r, draw(r)))
			b.nothingOfP9Breaks(t)
			// Nobody can come any more, once nobody is there.
			if b.m.live == [api.MaxProcs]bool{} {
				break
			}
		}
		b.nobodyWaitsInTheEnd(t)
		if t.Failed() {
			t.Fatalf("with the seed %d", seed)
		}
	}
}

func TestDrawnCallsAgainstTheModel(t *testing.T) {
	var c tally
	c.drawnCalls(t, 200, wide)
	c.drawnCalls(t, 300, narrow)
	c.drawnCalls(t, 200, scattered)
	// A draw that never came to something says nothing of it.
	for e, count := range c.told {
		if count == 0 {
			t.Errorf("no drawn call answered %d", e)
		}
	}
	for _, e := range []api.Errno{api.OK, api.ErrTable, api.ErrDeadlock} {
		if c.ended[e] == 0 {
			t.Errorf("nobody's waiting ended with %d", e)
		}
	}
	t.Logf("calls ended by number %v, waiting %v", c.told, c.ended)
}

func (b *pair) nothingOfP9Breaks(t *testing.T) {
	t.Helper()
	for f := range api.MaxFiles {
		list := b.k.Holds(f)
		if len(list) > 1 && slices.ContainsFunc(list, func(h api.Hold) bool { return h.Kind == alone }) {
			t.Errorf("P9: beside a lock Alone of the whole file: %v", list)
		}
		for _, x := range b.k.Runs(f) {
			for _, y := range b.k.Runs(f) {
				if x.Kind == alone && x.Proc != y.Proc && x.From <= y.To && y.From <= x.To {
					t.Errorf("P9: beside a lock Alone: %v and %v", x, y)
				}
			}
		}
	}
	for _, w := range b.m.queue {
		if len(b.m.inTheWay(w)) == 0 {
			t.Errorf("P9: %d waits and nothing is in its way", w.p)
		}
	}
	if waiting := b.k.Waiting(); len(waiting) > 0 && len(b.idle()) == 0 {
		t.Errorf("P9: all wait: %v", waiting)
	}
}

// idle has those that are there and do not wait, by what the kernel tells alone.
func (b *pair) idle() []int {
	var out []int
	for p := range api.MaxProcs {
		if b.k.Dup(p, -1).Err == api.ErrFd {
			out = append(out, p)
		}
	}
	return out
}

func (b *pair) nobodyWaitsInTheEnd(t *testing.T) {
	t.Helper()
	for range api.MaxProcs {
		if list := b.idle(); len(list) > 0 {
			got, want := b.k.Kill(list[0]), b.m.kill(list[0])
			is(t, "Kill", got, want.Err, want.N, want.Done...)
		}
	}
	waitingAre(t, b.k)
	for f := range api.MaxFiles {
		runsAre(t, b.k, f)
		holdsAre(t, b.k, f)
	}
}
