package wholes

import (
	"slices"
	"testing"

	"holds/procs"
	"holds/terms"
)

// owners has three openings of one file.
func owners() (a, b, c *procs.Opening) {
	tab := procs.New()
	for range 3 {
		tab.Open(0, 0)
	}
	a, _ = tab.Find(0, 0)
	b, _ = tab.Find(0, 1)
	c, _ = tab.Find(0, 2)
	return a, b, c
}

func are(t *testing.T, what string, got List, want ...Lock) {
	t.Helper()
	if !slices.Equal(got, want) {
		t.Errorf("%s: %v, want %v", what, got, want)
	}
}

func TestBiters(t *testing.T) {
	a, b, c := owners()
	for _, one := range []struct {
		list  List
		asked Lock
		want  []*procs.Opening
	}{
		{nil, Lock{a, terms.Alone, 9}, nil},
		{List{{a, terms.Alone, 1}}, Lock{a, terms.Alone, 9}, nil},
		{List{{a, terms.Alone, 1}}, Lock{a, terms.Shared, 9}, nil},
		{List{{a, terms.Alone, 1}}, Lock{b, terms.Free, 9}, nil},
		{List{{a, terms.Alone, 1}}, Lock{}, nil},
		{List{{a, terms.Alone, 1}}, Lock{b, terms.Shared, 9}, []*procs.Opening{a}},
		{List{{a, terms.Alone, 1}}, Lock{b, terms.Alone, 9}, []*procs.Opening{a}},
		{List{{a, terms.Shared, 1}}, Lock{b, terms.Shared, 9}, nil},
		{List{{a, terms.Shared, 1}}, Lock{b, terms.Alone, 9}, []*procs.Opening{a}},
		{List{{a, terms.Shared, 1}, {b, terms.Shared, 2}}, Lock{a, terms.Alone, 9}, []*procs.Opening{b}},
		{List{{a, terms.Shared, 1}, {b, terms.Shared, 2}}, Lock{b, terms.Alone, 9}, []*procs.Opening{a}},
		{List{{a, terms.Shared, 1}, {b, terms.Shared, 2}}, Lock{c, terms.Alone, 9}, []*procs.Opening{a, b}},
		{List{{a, terms.Shared, 1}, {b, terms.Shared, 2}}, Lock{c, terms.Shared, 9}, nil},
	} {
		if got := one.list.Biters(one.asked); !slices.Equal(got, one.want) {
			t.Errorf("%v bite %v: %v", one.list, one.asked, got)
		}
	}
}

func TestSet(t *testing.T) {
	a, b, c := owners()
	list := List{{a, terms.Shared, 2}, {b, terms.Shared, 4}, {c, terms.Alone, 6}}
	kept := slices.Clone(list)
	are(t, "the first", List(nil).Set(Lock{a, terms.Alone, 1}), Lock{a, terms.Alone, 1})
	are(t, "one more", list[:1].Set(Lock{b, terms.Alone, 3}), Lock{a, terms.Shared, 2}, Lock{b, terms.Alone, 3})
	are(t, "the same kind", list.Set(Lock{a, terms.Shared, 9}), kept...)
	are(t, "another kind", list.Set(Lock{a, terms.Alone, 9}), Lock{b, terms.Shared, 4}, Lock{c, terms.Alone, 6}, Lock{a, terms.Alone, 9})
	are(t, "another kind of the last", list.Set(Lock{c, terms.Shared, 9}), Lock{a, terms.Shared, 2}, Lock{b, terms.Shared, 4}, Lock{c, terms.Shared, 9})
	are(t, "one that waited", list[1:].Set(Lock{a, terms.Shared, 5}), Lock{b, terms.Shared, 4}, Lock{a, terms.Shared, 5}, Lock{c, terms.Alone, 6})
	are(t, "the one that waited longest", list[1:].Set(Lock{a, terms.Shared, 3}), Lock{a, terms.Shared, 3}, Lock{b, terms.Shared, 4}, Lock{c, terms.Alone, 6})
	are(t, "another kind that waited", list.Set(Lock{c, terms.Shared, 3}), Lock{a, terms.Shared, 2}, Lock{c, terms.Shared, 3}, Lock{b, terms.Shared, 4})
	are(t, "the same kind that waited", list.Set(Lock{c, terms.Alone, 3}), kept...)
	are(t, "Free", list.Set(Lock{b, terms.Free, 9}), Lock{a, terms.Shared, 2}, Lock{c, terms.Alone, 6})
	are(t, "Free of nothing", list[:2].Set(Lock{c, terms.Free, 9}), kept[:2]...)
	are(t, "the list itself", list, kept...)
}

func TestKeep(t *testing.T) {
	a, b, c := owners()
	list := List{{a, terms.Shared, 1}, {b, terms.Shared, 2}, {c, terms.Shared, 3}}
	kept := slices.Clone(list)
	are(t, "without b", list.Keep(func(o *procs.Opening) bool { return o != b }), kept[0], kept[2])
	are(t, "nobody", list.Keep(func(*procs.Opening) bool { return false }))
	are(t, "all", list.Keep(func(*procs.Opening) bool { return true }), kept...)
	are(t, "the list itself", list, kept...)
}
