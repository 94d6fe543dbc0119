package holds

import (
	"holds/api"
	"holds/terms"
)

// The methods of this file are called while the guard is held. The lists that they give are new memory.

func (k *Kernel) tellRuns(file int) []api.Run {
	var out []api.Run
	for _, r := range k.at(file).runs {
		out = append(out, api.Run{Proc: r.Proc, Kind: int(r.Kind), From: r.From, To: r.To})
	}
	return out
}

func (k *Kernel) tellWholes(file int) []api.Hold {
	var out []api.Hold
	for _, held := range k.at(file).wholes {
		out = append(out, api.Hold{Kind: int(held.Kind), Procs: k.procs.Users(held.Owner)})
	}
	return out
}

// at tells what is locked of a file: nothing, of a number that is no file's.
func (k *Kernel) at(file int) locked {
	if file < 0 || file >= api.MaxFiles {
		return locked{}
	}
	return k.files[file]
}

// answer turns the words of the inside into those of package api, which have the same numbers. Behind a call that may have changed something it tells who waits no more.
func (k *Kernel) answer(n int, f terms.Fault) api.Reply {
	r := api.Reply{Err: api.Errno(f), N: n}
	if f == terms.OK {
		r.Done = k.settle()
	}
	return r
}
