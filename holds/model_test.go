package holds_test

import (
	"slices"

	"holds/api"
)

const size = api.MaxPos + 1

// model says the document's words over again with a cell for each position and process, and with each opening that ever was.
type model struct {
	live   [api.MaxProcs]bool
	fds    [api.MaxProcs][api.MaxFds]*opened
	cells  [api.MaxFiles][size][api.MaxProcs]int
	opened []*opened
	queue  []*want
	now    int
}

// want is a lock that is asked for: of an opening, or, if it has none, on positions.
type want struct {
	p, kind, file, asked int
	at                   []int
	o                    *opened
}

// opened has its lock, and when it was got, or got another kind, last.
type opened struct {
	file, kind, since int
}

func bad(e api.Errno) api.Reply { return api.Reply{Err: e} }

func (m *model) noProc(p int) bool { return p < 0 || p >= api.MaxProcs || !m.live[p] }

func (m *model) noFd(p, fd int) bool { return fd < 0 || fd >= api.MaxFds || m.fds[p][fd] == nil }

func (m *model) waits(p int) bool {
	return slices.ContainsFunc(m.queue, func(w *want) bool { return w.p == p })
}

func (m *model) wrongProc(p int) api.Errno {
	switch {
	case m.noProc(p):
		return api.ErrProc
	case m.waits(p):
		return api.ErrBlocked
	}
	return api.OK
}

func (m *model) wrongFd(p, fd int) api.Errno {
	e := m.wrongProc(p)
	if e == api.OK && m.noFd(p, fd) {
		return api.ErrFd
	}
	return e
}

func (m *model) fork(p int) api.Reply {
	if e := m.wrongProc(p); e != api.OK {
		return bad(e)
	}
	for n := range m.live {
		if !m.live[n] {
			m.live[n], m.fds[n] = true, m.fds[p]
			return api.Reply{N: n}
		}
	}
	return bad(api.ErrFull)
}

func (m *model) forget(p, file int) {
	for i := range size {
		m.cells[file][i][p] = free
	}
}

func (m *model) kill(p int) api.Reply {
	if m.noProc(p) {
		return bad(api.ErrProc)
	}
	m.live[p], m.fds[p] = false, [api.MaxFds]*opened{}
	m.leave(p)
	for file := range m.cells {
		m.forget(p, file)
	}
	return m.settled()
}

func (m *model) place(p int, what *opened) api.Reply {
	for fd := range m.fds[p] {
		if m.fds[p][fd] == nil {
			m.fds[p][fd] = what
			return api.Reply{N: fd}
		}
	}
	return bad(api.ErrFull)
}

func (m *model) open(p, file int) api.Reply {
	if e := m.wrongProc(p); e != api.OK {
		return bad(e)
	}
	if file < 0 || file >= api.MaxFiles {
		return bad(api.ErrFile)
	}
	o := &opened{file: file}
	m.opened = append(m.opened, o)
	return m.place(p, o)
}

func (m *model) dup(p, fd int) api.Reply {
	if e := m.wrongFd(p, fd); e != api.OK {
		return bad(e)
	}
	return m.place(p, m.fds[p][fd])
}

func (m *model) close(p, fd int) api.Reply {
	if e := m.wrongFd(p, fd); e != api.OK {
		return bad(e)
	}
	m.forget(p, m.fds[p][fd].file)
	m.fds[p][fd] = nil
	return m.settled()
}

// within lists the positions of a range; nil, if one of them is of no file.
func within(from, length int) []int {
	if length == 0 {
		length = max(0, size-from)
	}
	if length < 0 {
		from, length = from+length, -length
	}
	var out []int
	for i := from; i < from+length; i++ {
		if i < 0 || i >= size {
			return nil
		}
		out = append(out, i)
	}
	return out
}

func (m *model) wrong(p, fd, kind, least, from, length int) api.Errno {
	switch e := m.wrongFd(p, fd); {
	case e != api.OK:
		return e
	case kind < least || kind > alone:
		return api.ErrKind
	case len(within(from, length)) == 0:
		return api.ErrRange
	}
	return api.OK
}

func (m *model) biter(p, file, kind int, at []int) int {
	for q := range api.MaxProcs {
		for _, i := range at {
			has := m.cells[file][i][q]
			if q != p && kindsBite(has, kind) {
				return q
			}
		}
	}
	return -1
}

func (m *model) lock(p, fd, kind, from, length int, wait bool) api.Reply {
	if e := m.wrong(p, fd, kind, free, from, length); e != api.OK {
		return bad(e)
	}
	return m.ask(&want{p: p, kind: kind, file: m.fds[p][fd].file, at: within(from, length)}, wait)
}

func (m *model) test(p, fd, kind, from, length int) api.Reply {
	if e := m.wrong(p, fd, kind, shared, from, length); e != api.OK {
		return bad(e)
	}
	return api.Reply{N: m.biter(p, m.fds[p][fd].file, kind, within(from, length))}
}

func (m *model) runs(file int) []api.Run {
	var out []api.Run
	c := &m.cells[file]
	for i := range size {
		for p := range api.MaxProcs {
			if c[i][p] == free || i > 0 && c[i-1][p] == c[i][p] {
				continue
			}
			to := i
			for to+1 < size && c[to+1][p] == c[i][p] {
				to++
			}
			out = append(out, api.Run{Proc: p, Kind: c[i][p], From: i, To: to})
		}
	}
	return out
}

func (m *model) users(o *opened) []int {
	var out []int
	for p := range m.fds {
		if slices.Contains(m.fds[p][:], o) {
			out = append(out, p)
		}
	}
	return out
}

// locked lists the openings of a file that have a lock and are not gone.
func (m *model) locked(file int) []*opened {
	var out []*opened
	for _, o := range m.opened {
		if o.file == file && o.kind != free && len(m.users(o)) > 0 {
			out = append(out, o)
		}
	}
	return out
}

func (m *model) whole(p, fd, kind int, wait bool) api.Reply {
	if e := m.wrong(p, fd, kind, free, 0, 0); e != api.OK {
		return bad(e)
	}
	o := m.fds[p][fd]
	return m.ask(&want{p: p, kind: kind, file: o.file, o: o}, wait)
}

func (m *model) ask(w *want, wait bool) api.Reply {
	m.now++
	w.asked = m.now
	switch {
	case len(m.inTheWay(w)) == 0:
		if e := m.have(w); e != api.OK {
			return bad(e)
		}
		return m.settled()
	case !wait:
		return bad(api.ErrBusy)
	}
	m.queue = append(m.queue, w)
	if m.stuck()>>w.p&1 == 1 {
		m.leave(w.p)
		return bad(api.ErrDeadlock)
	}
	return bad(api.Pending)
}

func (m *model) have(w *want) api.Errno {
	if w.o != nil {
		if w.kind != w.o.kind {
			m.now++
			w.o.kind, w.o.since = w.kind, m.now
		}
		return api.OK
	}
	before := m.cells[w.file]
	for _, i := range w.at {
		m.cells[w.file][i][w.p] = w.kind
	}
	if len(m.runs(w.file)) > api.MaxRuns {
		m.cells[w.file] = before
		return api.ErrTable
	}
	return api.OK
}

func (m *model) leave(p int) {
	m.queue = slices.DeleteFunc(m.queue, func(w *want) bool { return w.p == p })
}

func kindsBite(a, b int) bool { return a != free && b != free && a+b > shared+shared }

// inTheWay has for each thing in the way of a lock the processes that could let it go, a bit each.
func (m *model) inTheWay(w *want) []int {
	var out []int
	for _, i := range w.at {
		for q, kind := range m.cells[w.file][i] {
			if q != w.p && kindsBite(kind, w.kind) {
				out = append(out, 1<<q)
			}
		}
	}
	for _, o := range m.locked(w.file) {
		if w.o != nil && o != w.o && kindsBite(o.kind, w.kind) {
			could := 0
			for _, q := range m.users(o) {
				could |= 1 << q
			}
			out = append(out, could)
		}
	}
	for _, v := range m.queue {
		if v.asked < w.asked && v.file == w.file && kindsBite(v.kind, w.kind) && v.meets(w) {
			out = append(out, 1<<v.p)
		}
	}
	return out
}

func (w *want) meets(v *want) bool {
	if w.o != nil || v.o != nil {
		return w.o != nil && v.o != nil && w.o != v.o
	}
	return w.p != v.p && slices.ContainsFunc(w.at, func(i int) bool { return slices.Contains(v.at, i) })
}

// stuck tries every set of processes that wait; the greatest has all that are in one that is stuck.
func (m *model) stuck() int {
	all := 0
	for _, w := range m.queue {
		all |= 1 << w.p
	}
	greatest := 0
	for set := all; set > 0; set = (set - 1) & all {
		if m.isStuck(set) {
			greatest |= set
		}
	}
	return greatest
}

func (m *model) isStuck(set int) bool {
	for _, w := range m.queue {
		only := func(could int) bool { return could&^set == 0 }
		if set>>w.p&1 == 1 && !slices.ContainsFunc(m.inTheWay(w), only) {
			return false
		}
	}
	return true
}

// settled is the answer of a call that changed something.
func (m *model) settled() api.Reply {
	var r api.Reply
	for {
		d, ok := m.next()
		if !ok {
			return r
		}
		m.leave(d.Proc)
		r.Done = append(r.Done, d)
	}
}

func (m *model) next() (api.Done, bool) {
	for _, w := range m.queue {
		if len(m.inTheWay(w)) == 0 {
			return api.Done{Proc: w.p, Err: m.have(w)}, true
		}
	}
	set := m.stuck()
	for _, w := range slices.Backward(m.queue) {
		if set>>w.p&1 == 1 {
			return api.Done{Proc: w.p, Err: api.ErrDeadlock}, true
		}
	}
	return api.Done{}, false
}

func (m *model) waiting() []int {
	var out []int
	for _, w := range m.queue {
		out = append(out, w.p)
	}
	return out
}

func (m *model) holds(file int) []api.Hold {
	list := m.locked(file)
	slices.SortFunc(list, func(a, b *opened) int { return a.since - b.since })
	var out []api.Hold
	for _, o := range list {
		out = append(out, api.Hold{Kind: o.kind, Procs: m.users(o)})
	}
	return out
}
