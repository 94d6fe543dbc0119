package holds

import (
	"holds/procs"
	"holds/queue"
	"holds/runs"
	"holds/terms"
	"holds/wholes"
)

// The functions of this file are called while the guard is held.

func (k *Kernel) kill(p int) terms.Fault {
	if f := k.procs.Kill(p); f != terms.OK {
		return f
	}
	k.queue = k.queue.Without(p)
	for i := range k.files {
		k.files[i].runs = k.files[i].runs.Without(p)
	}
	k.sweep()
	return terms.OK
}

func (k *Kernel) shut(p, fd int) terms.Fault {
	o, f := k.procs.Close(p, fd)
	if f != terms.OK {
		return f
	}
	// All of p's locks on the file go, those too that came by another descriptor.
	at := &k.files[o.File()]
	at.runs = at.runs.Without(p)
	k.sweep()
	return terms.OK
}

// sweep takes the locks of those openings away of which there is no descriptor any more.
func (k *Kernel) sweep() {
	for i := range k.files {
		k.files[i].wholes = k.files[i].wholes.Keep(k.procs.InUse)
	}
}

func (k *Kernel) lock(p, fd, kind, from, length int, wait bool) terms.Fault {
	file, asked, f := k.read(p, fd, kind, from, length, terms.Free)
	if f != terms.OK {
		return f
	}
	return k.ask(queue.Ask{Proc: p, File: file, Run: asked}, wait)
}

// test minds those alone that have a lock, not those that wait for one.
func (k *Kernel) test(p, fd, kind, from, length int) (int, terms.Fault) {
	file, asked, f := k.read(p, fd, kind, from, length, terms.Shared)
	if f != terms.OK {
		return 0, f
	}
	if who := k.files[file].runs.Biters(asked); len(who) > 0 {
		return who[0], terms.OK
	}
	return -1, terms.OK
}

func (k *Kernel) whole(p, fd, kind int, wait bool) terms.Fault {
	owner, known, f := k.find(p, fd, kind, terms.Free)
	if f != terms.OK {
		return f
	}
	asked := wholes.Lock{Owner: owner, Kind: known}
	return k.ask(queue.Ask{Proc: p, File: owner.File(), Whole: asked}, wait)
}

// read makes of a call's numbers the file and the lock on positions that is asked for.
func (k *Kernel) read(p, fd, kind, from, length int, least terms.Kind) (int, runs.Run, terms.Fault) {
	o, known, f := k.find(p, fd, kind, least)
	if f != terms.OK {
		return 0, runs.Run{}, f
	}
	first, last, ok := runs.Bounds(from, length)
	if !ok {
		return 0, runs.Run{}, terms.NoRange
	}
	return o.File(), runs.Run{Proc: p, Kind: known, From: first, To: last}, terms.OK
}

// find makes of a call's numbers the opening and the kind. The kinds begin at least, since not every call knows Free.
func (k *Kernel) find(p, fd, kind int, least terms.Kind) (*procs.Opening, terms.Kind, terms.Fault) {
	o, f := k.procs.Find(p, fd)
	if f != terms.OK {
		return nil, terms.Free, f
	}
	known, ok := terms.KindOf(kind)
	if !ok || known < least {
		return nil, terms.Free, terms.NoKind
	}
	return o, known, terms.OK
}
