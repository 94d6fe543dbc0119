package holds_test

import (
	"math/rand"
	"slices"
	"testing"

	"holds/api"
	"holds/holds"
)

const size = api.MaxPos + 1

// model says the document's words over again with a cell for each position and process, and with each opening that ever was.
type model struct {
	live   [api.MaxProcs]bool
	fds    [api.MaxProcs][api.MaxFds]*opened
	cells  [api.MaxFiles][size][api.MaxProcs]int
	opened []*opened
	now    int
}

// opened has its lock, and when it was got, or got another kind, last.
type opened struct {
	file, kind, since int
}

func bad(e api.Errno) api.Reply { return api.Reply{Err: e} }

func (m *model) noProc(p int) bool { return p < 0 || p >= api.MaxProcs || !m.live[p] }

func (m *model) noFd(p, fd int) bool { return fd < 0 || fd >= api.MaxFds || m.fds[p][fd] == nil }

func (m *model) fork(p int) api.Reply {
	if m.noProc(p) {
		return bad(api.ErrProc)
	}
	for n := range m.live {
		if !m.live[n] {
			m.live[n], m.fds[n] = true, m.fds[p]
			return api.Reply{N: n}
		}
	}
	return bad(api.ErrFull)
}

func (m *model) forget(p, file int) {
	for i := range size {
		m.cells[file][i][p] = free
	}
}

func (m *model) kill(p int) api.Reply {
	if m.noProc(p) {
		return bad(api.ErrProc)
	}
	m.live[p], m.fds[p] = false, [api.MaxFds]*opened{}
	for file := range m.cells {
		m.forget(p, file)
	}
	return api.Reply{}
}

func (m *model) place(p int, what *opened) api.Reply {
	for fd := range m.fds[p] {
		if m.fds[p][fd] == nil {
			m.fds[p][fd] = what
			return api.Reply{N: fd}
		}
	}
	return bad(api.ErrFull)
}

func (m *model) open(p, file int) api.Reply {
	switch {
	case m.noProc(p):
		return bad(api.ErrProc)
	case file < 0 || file >= api.MaxFiles:
		return bad(api.ErrFile)
	}
	o := &opened{file: file}
	m.opened = append(m.opened, o)
	return m.place(p, o)
}

func (m *model) dup(p, fd int) api.Reply {
	switch {
	case m.noProc(p):
		return bad(api.ErrProc)
	case m.noFd(p, fd):
		return bad(api.ErrFd)
	}
	return m.place(p, m.fds[p][fd])
}

func (m *model) close(p, fd int) api.Reply {
	switch {
	case m.noProc(p):
		return bad(api.ErrProc)
	case m.noFd(p, fd):
		return bad(api.ErrFd)
	}
	m.forget(p, m.fds[p][fd].file)
	m.fds[p][fd] = nil
	return api.Reply{}
}

// within lists the positions of a range; nil, if one of them is of no file.
func within(from, length int) []int {
	if length == 0 {
		length = max(0, size-from)
	}
	if length < 0 {
		from, length = from+length, -length
	}
	var out []int
	for i := from; i < from+length; i++ {
		if i < 0 || i >= size {
			return nil
		}
		out = append(out, i)
	}
	return out
}

func (m *model) wrong(p, fd, kind, least, from, length int) api.Errno {
	switch {
	case m.noProc(p):
		return api.ErrProc
	case m.noFd(p, fd):
		return api.ErrFd
	case kind < least || kind > alone:
		return api.ErrKind
	case len(within(from, length)) == 0:
		return api.ErrRange
	}
	return api.OK
}

func (m *model) biter(p, file, kind int, at []int) int {
	for q := range api.MaxProcs {
		for _, i := range at {
			has := m.cells[file][i][q]
			if q != p && has != free && kind != free && (has == alone || kind == alone) {
				return q
			}
		}
	}
	return -1
}

func (m *model) lock(p, fd, kind, from, length int) api.Reply {
	if e := m.wrong(p, fd, kind, free, from, length); e != api.OK {
		return bad(e)
	}
	file, at := m.fds[p][fd].file, within(from, length)
	if m.biter(p, file, kind, at) >= 0 {
		return bad(api.ErrBusy)
	}
	before := m.cells[file]
	for _, i := range at {
		m.cells[file][i][p] = kind
	}
	if len(m.runs(file)) > api.MaxRuns {
		m.cells[file] = before
		return bad(api.ErrTable)
	}
	return api.Reply{}
}

func (m *model) test(p, fd, kind, from, length int) api.Reply {
	if e := m.wrong(p, fd, kind, shared, from, length); e != api.OK {
		return bad(e)
	}
	return api.Reply{N: m.biter(p, m.fds[p][fd].file, kind, within(from, length))}
}

func (m *model) runs(file int) []api.Run {
	var out []api.Run
	c := &m.cells[file]
	for i := range size {
		for p := range api.MaxProcs {
			if c[i][p] == free || i > 0 && c[i-1][p] == c[i][p] {
				continue
			}
			to := i
			for to+1 < size && c[to+1][p] == c[i][p] {
				to++
			}
			out = append(out, api.Run{Proc: p, Kind: c[i][p], From: i, To: to})
		}
	}
	return out
}

func (m *model) users(o *opened) []int {
	var out []int
	for p := range m.fds {
		if slices.Contains(m.fds[p][:], o) {
			out = append(out, p)
		}
	}
	return out
}

// locked lists the openings of a file that have a lock and are not gone.
func (m *model) locked(file int) []*opened {
	var out []*opened
	for _, o := range m.opened {
		if o.file == file && o.kind != free && len(m.users(o)) > 0 {
			out = append(out, o)
		}
	}
	return out
}

func (m *model) whole(p, fd, kind int) api.Reply {
	if e := m.wrong(p, fd, kind, free, 0, 0); e != api.OK {
		return bad(e)
	}
	o := m.fds[p][fd]
	for _, other := range m.locked(o.file) {
		if other != o && kind != free && (kind == alone || other.kind == alone) {
			return bad(api.ErrBusy)
		}
	}
	if kind != o.kind {
		m.now++
		o.kind, o.since = kind, m.now
	}
	return api.Reply{}
}

func (m *model) holds(file int) []api.Hold {
	list := m.locked(file)
	slices.SortFunc(list, func(a, b *opened) int { return a.since - b.since })
	var out []api.Hold
	for _, o := range list {
		out = append(out, api.Hold{Kind: o.kind, Procs: m.users(o)})
	}
	return out
}

// step makes the same drawn call of both; some of its numbers are wrong.
func (m *model) step(t *testing.T, r *rand.Rand, k *holds.Kernel) {
	p, fd, file := r.Intn(7)-r.Intn(2), r.Intn(6)-r.Intn(2), r.Intn(4)-r.Intn(2)
	if r.Intn(3) > 0 {
		p, fd = r.Intn(3), r.Intn(3)
	}
	kind, from, length := r.Intn(4)-r.Intn(2), r.Intn(66)-r.Intn(2), r.Intn(12)-r.Intn(12)
	var got, want api.Reply
	switch n := r.Intn(50); {
	case n < 2:
		got, want = k.Fork(p), m.fork(p)
	case n < 3:
		got, want = k.Kill(p), m.kill(p)
	case n < 7:
		got, want = k.Open(p, file), m.open(p, file)
	case n < 8:
		got, want = k.Dup(p, fd), m.dup(p, fd)
	case n < 9:
		got, want = k.Close(p, fd), m.close(p, fd)
	case n < 13:
		got, want = k.Test(p, fd, kind, from, length), m.test(p, fd, kind, from, length)
	case n < 23:
		got, want = k.Whole(p, fd, kind, false), m.whole(p, fd, kind)
	default:
		got, want = k.Lock(p, fd, kind, from, length, false), m.lock(p, fd, kind, from, length)
	}
	is(t, "a drawn call", got, want.Err, want.N)
	for f := range api.MaxFiles {
		runsAre(t, k, f, m.runs(f)...)
		holdsAre(t, k, f, m.holds(f)...)
	}
}

func TestDrawnCallsAgainstTheModel(t *testing.T) {
	for seed := range int64(200) {
		r := rand.New(rand.NewSource(seed))
		k, m := holds.New(), &model{}
		m.live[0] = true
		for range 300 {
			m.step(t, r, k)
		}
		if t.Failed() {
			t.Fatalf("with the seed %d", seed)
		}
	}
}
