package wholes

import (
	"slices"
	"testing"

	"holds/procs"
	"holds/terms"
)

// owners has three openings of one file.
func owners() (a, b, c *procs.Opening) {
	tab := procs.New()
	for range 3 {
		tab.Open(0, 0)
	}
	a, _ = tab.Find(0, 0)
	b, _ = tab.Find(0, 1)
	c, _ = tab.Find(0, 2)
	return a, b, c
}

func are(t *testing.T, what string, got List, want ...Lock) {
	t.Helper()
	if !slices.Equal(got, want) {
		t.Errorf("%s: %v, want %v", what, got, want)
	}
}

func TestBiters(t *testing.T) {
	a, b, c := owners()
	for _, one := range []struct {
		list  List
		asked Lock
		want  []*procs.Opening
	}{
		{nil, Lock{a, terms.Alone}, nil},
		{List{{a, terms.Alone}}, Lock{a, terms.Alone}, nil},
		{List{{a, terms.Alone}}, Lock{a, terms.Shared}, nil},
		{List{{a, terms.Alone}}, Lock{b, terms.Free}, nil},
		{List{{a, terms.Alone}}, Lock{}, nil},
		{List{{a, terms.Alone}}, Lock{b, terms.Shared}, []*procs.Opening{a}},
		{List{{a, terms.Alone}}, Lock{b, terms.Alone}, []*procs.Opening{a}},
		{List{{a, terms.Shared}}, Lock{b, terms.Shared}, nil},
		{List{{a, terms.Shared}}, Lock{b, terms.Alone}, []*procs.Opening{a}},
		{List{{a, terms.Shared}, {b, terms.Shared}}, Lock{a, terms.Alone}, []*procs.Opening{b}},
		{List{{a, terms.Shared}, {b, terms.Shared}}, Lock{b, terms.Alone}, []*procs.Opening{a}},
		{List{{a, terms.Shared}, {b, terms.Shared}}, Lock{c, terms.Alone}, []*procs.Opening{a, b}},
		{List{{a, terms.Shared}, {b, terms.Shared}}, Lock{c, terms.Shared}, nil},
	} {
		if got := one.list.Biters(one.asked); !slices.Equal(got, one.want) {
			t.Errorf("%v bite %v: %v", one.list, one.asked, got)
		}
	}
}

func TestSet(t *testing.T) {
	a, b, c := owners()
	list := List{{a, terms.Shared}, {b, terms.Shared}, {c, terms.Alone}}
	kept := slices.Clone(list)
	are(t, "the first", List(nil).Set(Lock{a, terms.Alone}), Lock{a, terms.Alone})
	are(t, "one more", list[:1].Set(Lock{b, terms.Alone}), Lock{a, terms.Shared}, Lock{b, terms.Alone})
	are(t, "one more, of the eldest opening", list[1:].Set(Lock{a, terms.Shared}), Lock{b, terms.Shared}, Lock{c, terms.Alone}, Lock{a, terms.Shared})
	are(t, "the same kind", list.Set(Lock{a, terms.Shared}), kept...)
	are(t, "the same kind of the last", list.Set(Lock{c, terms.Alone}), kept...)
	are(t, "another kind", list.Set(Lock{a, terms.Alone}), Lock{b, terms.Shared}, Lock{c, terms.Alone}, Lock{a, terms.Alone})
	are(t, "another kind of the last", list.Set(Lock{c, terms.Shared}), Lock{a, terms.Shared}, Lock{b, terms.Shared}, Lock{c, terms.Shared})
	are(t, "Free", list.Set(Lock{b, terms.Free}), Lock{a, terms.Shared}, Lock{c, terms.Alone})
	are(t, "Free of nothing", list[:2].Set(Lock{c, terms.Free}), kept[:2]...)
	are(t, "the list itself", list, kept...)
}

func TestKeep(t *testing.T) {
	a, b, c := owners()
	list := List{{a, terms.Shared}, {b, terms.Shared}, {c, terms.Shared}}
	kept := slices.Clone(list)
	are(t, "without b", list.Keep(func(o *procs.Opening) bool { return o != b }), kept[0], kept[2])
	are(t, "nobody", list.Keep(func(*procs.Opening) bool { return false }))
	are(t, "all", list.Keep(func(*procs.Opening) bool { return true }), kept...)
	are(t, "the list itself", list, kept...)
}
