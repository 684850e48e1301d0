package groups_test

import (
	"fmt"
	"slices"
	"testing"

	"satchel/api"
	"satchel/groups"
	"satchel/links"
)

// way tells how a relationship leads at a node: out, in, in a loop, or not at all.
func way(r api.Link, node int) string {
	switch {
	case r.From == node && r.To == node:
		return "loop"
	case r.From == node:
		return "out"
	case r.To == node:
		return "in"
	}
	return ""
}

// list gives the ids of a node's relationships of one type and way.
func list(rels []api.Link, types []int, node, token int, is string) []int {
	var ids []int
	for id, r := range rels {
		if r.Live && types[id] == token && way(r, node) == is {
			ids = append(ids, id)
		}
	}
	return ids
}

// modelGather answers what the document's P17.1 words.
func modelGather(rels []api.Link, types []int, node int) []api.Bunch {
	if len(rels) != len(types) {
		return nil
	}
	var tokens []int
	for id, r := range rels {
		if r.Live && way(r, node) != "" {
			tokens = append(tokens, types[id])
		}
	}
	slices.Sort(tokens)
	var bunches []api.Bunch
	for _, token := range slices.Compact(tokens) {
		of := func(is string) []int { return list(rels, types, node, token, is) }
		bunches = append(bunches, api.Bunch{Type: token, Out: of("out"), In: of("in"), Loop: of("loop")})
	}
	return bunches
}

func first(ids []int) int {
	if len(ids) > 0 {
		return ids[0]
	}
	return -1
}

// modelMake answers what P17.2 words, list by list.
func modelMake(rels []api.Link, types []int, node, from int) ([]api.Link, []api.Group, api.Errno) {
	bunches := modelGather(rels, types, node)
	if len(rels) != len(types) || from < 0 || from > 65536 || from+len(bunches) > 65536 {
		return nil, nil, api.ErrArg
	}
	var made []api.Group
	for i, b := range bunches {
		next := from + i + 1
		if i == len(bunches)-1 {
			next = -1
		}
		made = append(made, api.Group{Live: true, Type: b.Type, Owner: node, Out: first(b.Out), In: first(b.In), Loop: first(b.Loop), Next: next})
		for _, ids := range [][]int{b.Out, b.In, b.Loop} {
			rels, _ = links.Thread(rels, node, ids)
		}
	}
	return rels, made, api.OK
}

// modelRead answers what P17.3 words.
func modelRead(rels []api.Link, types []int, gs []api.Group, node, head int) ([]api.Bunch, api.Errno) {
	if len(rels) != len(types) {
		return nil, api.ErrArg
	}
	var bunches []api.Bunch
	missing := map[int]struct{}{}
	for id, r := range rels {
		if r.Live && way(r, node) != "" {
			missing[id] = struct{}{}
		}
	}
	for id := head; id != -1; id = gs[id].Next {
		if id < 0 || id >= len(gs) || !gs[id].Live {
			return nil, api.ErrId
		}
		g := gs[id]
		if g.Owner != node {
			return nil, api.ErrGroup
		}
		if n := len(bunches); n > 0 && !(g.Type > bunches[n-1].Type) {
			return nil, api.ErrGroup
		}
		b := api.Bunch{Type: g.Type}
		for _, c := range []struct {
			head int
			is   string
			to   *[]int
		}{{g.Out, "out", &b.Out}, {g.In, "in", &b.In}, {g.Loop, "loop", &b.Loop}} {
			ids, e := links.Walk(rels, node, c.head)
			if e != api.OK {
				return nil, e
			}
			for _, id := range ids {
				if types[id] != g.Type || way(rels[id], node) != c.is {
					return nil, api.ErrGroup
				}
				delete(missing, id)
			}
			*c.to = ids
		}
		if b.Out == nil && b.In == nil && b.Loop == nil {
			return nil, api.ErrGroup
		}
		bunches = append(bunches, b)
	}
	if len(missing) > 0 {
		return nil, api.ErrChain
	}
	return bunches, api.OK
}

func sameBunch(a, b api.Bunch) bool {
	return a.Type == b.Type && slices.Equal(a.Out, b.Out) && slices.Equal(a.In, b.In) && slices.Equal(a.Loop, b.Loop)
}

func sameBunches(a, b []api.Bunch) bool {
	return slices.EqualFunc(a, b, sameBunch)
}

// wantUnchanged tells whether arguments are still what they were.
func wantUnchanged[T comparable](t *testing.T, now, before []T) {
	t.Helper()
	if !slices.Equal(now, before) {
		t.Fatalf("an argument has changed from %+v to %+v", before, now)
	}
}

func wantGather(t *testing.T, rels []api.Link, types []int, node int) {
	t.Helper()
	relsBefore, typesBefore := slices.Clone(rels), slices.Clone(types)
	want := modelGather(rels, types, node)
	if got := groups.Gather(rels, types, node); !sameBunches(got, want) {
		t.Fatalf("Gather(%+v, %v, %d) = %v, want %v", rels, types, node, got, want)
	}
	wantUnchanged(t, rels, relsBefore)
	wantUnchanged(t, types, typesBefore)
}

func wantMake(t *testing.T, rels []api.Link, types []int, node, from int) api.Errno {
	t.Helper()
	relsBefore, typesBefore := slices.Clone(rels), slices.Clone(types)
	want, wantGroups, wrong := modelMake(rels, types, node, from)
	got, made, e := groups.Make(rels, types, node, from)
	if e != wrong || !slices.Equal(got, want) || !slices.Equal(made, wantGroups) {
		t.Fatalf("Make(%+v, %v, %d, %d) = %+v, %+v, %v, want %+v, %+v, %v", rels, types, node, from, got, made, e, want, wantGroups, wrong)
	}
	wantUnchanged(t, rels, relsBefore)
	wantUnchanged(t, types, typesBefore)
	return e
}

// shelf gives a list in which groups have the ids from a number on.
func shelf(from int, made []api.Group) []api.Group {
	return append(make([]api.Group, from), made...)
}

func wantRead(t *testing.T, rels []api.Link, types []int, gs []api.Group, node, head int) api.Errno {
	t.Helper()
	relsBefore, typesBefore, groupsBefore := slices.Clone(rels), slices.Clone(types), slices.Clone(gs)
	want, wrong := modelRead(rels, types, gs, node, head)
	got, e := groups.Read(rels, types, gs, node, head)
	if e != wrong || !sameBunches(got, want) {
		t.Fatalf("Read(%s) = %v, %v, want %v, %v", fmt.Sprintf("%+v, %v, %+v, %d, %d", rels, types, gs, node, head), got, e, want, wrong)
	}
	wantUnchanged(t, rels, relsBefore)
	wantUnchanged(t, types, typesBefore)
	wantUnchanged(t, gs, groupsBefore)
	return e
}
