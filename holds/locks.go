package holds

import (
	"holds/api"
	"holds/runs"
	"holds/terms"
)

// The functions of this file are called while the guard is held.

func (k *Kernel) kill(p int) terms.Fault {
	if f := k.procs.Kill(p); f != terms.OK {
		return f
	}
	for file, list := range k.files {
		k.files[file] = list.Without(p)
	}
	return terms.OK
}

func (k *Kernel) shut(p, fd int) terms.Fault {
	file, f := k.procs.Close(p, fd)
	if f != terms.OK {
		return f
	}
	// All of p's locks on the file go, those too that came by another descriptor.
	k.files[file] = k.files[file].Without(p)
	return terms.OK
}

// lock does not wait yet: what is in the way is told as Busy.
func (k *Kernel) lock(p, fd, kind, from, length int) terms.Fault {
	file, asked, f := k.read(p, fd, kind, from, length, terms.Free)
	if f != terms.OK {
		return f
	}
	if k.files[file].Biter(asked) >= 0 {
		return terms.Busy
	}
	next := k.files[file].Set(asked)
	if len(next) > api.MaxRuns {
		return terms.Table
	}
	k.files[file] = next
	return terms.OK
}

func (k *Kernel) test(p, fd, kind, from, length int) (int, terms.Fault) {
	file, asked, f := k.read(p, fd, kind, from, length, terms.Shared)
	if f != terms.OK {
		return 0, f
	}
	return k.files[file].Biter(asked), terms.OK
}

// read makes of a call's numbers the file and the lock that is asked for. The kinds begin at least, since not every call knows Free.
func (k *Kernel) read(p, fd, kind, from, length int, least terms.Kind) (int, runs.Run, terms.Fault) {
	file, f := k.procs.File(p, fd)
	if f != terms.OK {
		return 0, runs.Run{}, f
	}
	known, ok := terms.KindOf(kind)
	if !ok || known < least {
		return 0, runs.Run{}, terms.NoKind
	}
	first, last, ok := runs.Bounds(from, length)
	if !ok {
		return 0, runs.Run{}, terms.NoRange
	}
	return file, runs.Run{Proc: p, Kind: known, From: first, To: last}, terms.OK
}

func (k *Kernel) tell(file int) []api.Run {
	if file < 0 || file >= api.MaxFiles {
		return nil
	}
	out := make([]api.Run, 0, len(k.files[file]))
	for _, r := range k.files[file] {
		out = append(out, api.Run{Proc: r.Proc, Kind: int(r.Kind), From: r.From, To: r.To})
	}
	return out
}

// reply turns the words of the inside into those of package api, which have the same numbers.
func reply(n int, f terms.Fault) api.Reply {
	return api.Reply{Err: api.Errno(f), N: n}
}
