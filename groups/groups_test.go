package groups_test

import (
	"math"
	"math/rand"
	"slices"
	"testing"

	"satchel/api"
	"satchel/groups"
)

// fresh is a live relationship that stands in no chain.
func fresh(from, to int) api.Link {
	return api.Link{Live: true, From: from, To: to, FromPrev: -1, ToPrev: -1, FromNext: -1, ToNext: -1}
}

// example are the document's four relationships and their types.
func example() ([]api.Link, []int) {
	return []api.Link{fresh(5, 6), fresh(5, 5), fresh(6, 5), fresh(5, 7)}, []int{2, 1, 2, 2}
}

// exampleMade are the lists of the example after Make with first 4.
func exampleMade() ([]api.Link, []int, []api.Group) {
	rels, types := example()
	rels[0].FromNext, rels[3].FromPrev = 3, 0
	return rels, types, shelf(4, []api.Group{
		{Live: true, Type: 1, Owner: 5, Out: -1, In: -1, Loop: 1, Next: 5},
		{Live: true, Type: 2, Owner: 5, Out: 0, In: 2, Loop: -1, Next: -1},
	})
}

func exampleBunches() []api.Bunch {
	return []api.Bunch{{Type: 1, Loop: []int{1}}, {Type: 2, Out: []int{0, 3}, In: []int{2}}}
}

// P17.1, P17.2, P17.3: the document's example, number by number.
func TestExample(t *testing.T) {
	rels, types := example()
	if b := groups.Gather(rels, types, 5); !sameBunches(b, exampleBunches()) {
		t.Errorf("Gather = %v", b)
	}
	wantRels, _, wantGroups := exampleMade()
	threaded, made, e := groups.Make(rels, types, 5, 4)
	if e != api.OK || !slices.Equal(threaded, wantRels) || !slices.Equal(shelf(4, made), wantGroups) {
		t.Errorf("Make = %+v, %+v, %v", threaded, made, e)
	}
	if b, e := groups.Read(wantRels, types, wantGroups, 5, 4); e != api.OK || !sameBunches(b, exampleBunches()) {
		t.Errorf("Read = %v, %v", b, e)
	}
}

// P17.1: other nodes of the example, relationships that don't exist, and lists that don't fit together.
func TestGather(t *testing.T) {
	rels, types := example()
	for node, want := range map[int][]api.Bunch{
		6: {{Type: 2, Out: []int{2}, In: []int{0}}},
		7: {{Type: 2, In: []int{3}}},
		8: nil, -1: nil, math.MinInt: nil, math.MaxInt: nil,
	} {
		if b := groups.Gather(rels, types, node); !sameBunches(b, want) {
			t.Errorf("Gather for %d = %v, want %v", node, b, want)
		}
	}
	rels[1].Live, rels[0].Live = false, false
	if b := groups.Gather(rels, types, 5); !sameBunches(b, []api.Bunch{{Type: 2, Out: []int{3}, In: []int{2}}}) {
		t.Errorf("Gather of the live ones = %v", b)
	}
	for _, n := range []int{0, 3, 5} {
		if b := groups.Gather(rels, make([]int, n), 5); len(b) != 0 {
			t.Errorf("Gather with %d types = %v", n, b)
		}
	}
	if b := groups.Gather(nil, types, 5); len(b) != 0 {
		t.Errorf("Gather of types alone = %v", b)
	}
	if b := groups.Gather(nil, []int{}, 5); len(b) != 0 {
		t.Errorf("Gather of nothing = %v", b)
	}
}

// P17.1: types of any number, and a node of any number.
func TestOddTypes(t *testing.T) {
	rels := []api.Link{fresh(-3, 2), fresh(2, -3), fresh(-3, -3), fresh(-3, 1), {From: -3, To: -3}}
	types := []int{math.MaxInt, math.MinInt, 0, -1, -7}
	want := []api.Bunch{{Type: math.MinInt, In: []int{1}}, {Type: -1, Out: []int{3}}, {Type: 0, Loop: []int{2}}, {Type: math.MaxInt, Out: []int{0}}}
	if b := groups.Gather(rels, types, -3); !sameBunches(b, want) {
		t.Errorf("Gather = %v, want %v", b, want)
	}
	threaded, made, e := groups.Make(rels, types, -3, 0)
	if e != api.OK {
		t.Fatalf("Make: %v", e)
	}
	if b, e := groups.Read(threaded, types, made, -3, 0); e != api.OK || !sameBunches(b, want) {
		t.Errorf("Read = %v, %v, want %v", b, e, want)
	}
}

// P17.2: what Make refuses, and the last numbers that it takes.
func TestMakeArguments(t *testing.T) {
	rels, types := example()
	for _, c := range []struct {
		types []int
		node  int
		first int
		want  api.Errno
	}{
		{types, 5, 0, api.OK}, {types, 5, 65534, api.OK}, {types, 5, 65535, api.ErrArg}, {types, 5, 65536, api.ErrArg},
		{types, 6, 65535, api.OK}, {types, 6, 65536, api.ErrArg}, {types, 9, 65536, api.OK}, {types, 9, 65537, api.ErrArg},
		{types, 5, -1, api.ErrArg}, {types, 9, -1, api.ErrArg}, {types, 5, math.MinInt, api.ErrArg},
		{types, 5, math.MaxInt, api.ErrArg}, {types, 5, math.MaxInt - 1, api.ErrArg}, {types, 9, math.MaxInt, api.ErrArg},
		{types[:3], 5, 0, api.ErrArg}, {types[:3], 9, 0, api.ErrArg}, {append(slices.Clone(types), 2), 5, 0, api.ErrArg}, {nil, 5, 0, api.ErrArg},
	} {
		if e := wantMake(t, rels, c.types, c.node, c.first); e != c.want {
			t.Errorf("Make(%v, %d, %d): %v, want %v", c.types, c.node, c.first, e, c.want)
		}
	}
	wantMake(t, nil, nil, 5, 0)
	wantMake(t, nil, types, 5, 0)
	wantMake(t, []api.Link{}, []int{}, 5, 7)
}

// P17.2: what stood in the fields of chains is replaced in those of the node, and nowhere else.
func TestMakeFields(t *testing.T) {
	full := api.Link{Live: true, FromPrev: 11, FromNext: 12, ToPrev: 13, ToNext: 14}
	with := func(from, to int) api.Link {
		full.From, full.To = from, to
		return full
	}
	dead := with(5, 5)
	dead.Live = false
	rels := []api.Link{with(5, 6), with(6, 5), with(5, 5), with(5, 7), with(7, 5), with(5, 5), with(6, 7), dead, with(5, 8), with(8, 5), with(5, 5)}
	types := []int{3, 3, 3, 3, 3, 3, 3, 3, 1, 1, 1}
	want := slices.Clone(rels)
	want[0].FromPrev, want[0].FromNext = -1, 3
	want[3].FromPrev, want[3].FromNext = 0, -1
	want[1].ToPrev, want[1].ToNext = -1, 4
	want[4].ToPrev, want[4].ToNext = 1, -1
	want[2].FromPrev, want[2].FromNext, want[2].ToPrev, want[2].ToNext = -1, 5, -1, -1
	want[5].FromPrev, want[5].FromNext, want[5].ToPrev, want[5].ToNext = 2, -1, -1, -1
	want[8].FromPrev, want[8].FromNext = -1, -1
	want[9].ToPrev, want[9].ToNext = -1, -1
	want[10].FromPrev, want[10].FromNext, want[10].ToPrev, want[10].ToNext = -1, -1, -1, -1
	wantGroups := []api.Group{
		{Live: true, Type: 1, Owner: 5, Out: 8, In: 9, Loop: 10, Next: 101},
		{Live: true, Type: 3, Owner: 5, Out: 0, In: 1, Loop: 2, Next: -1},
	}
	threaded, made, e := groups.Make(rels, types, 5, 100)
	if e != api.OK || !slices.Equal(threaded, want) || !slices.Equal(made, wantGroups) {
		t.Errorf("Make = %+v, %+v, %v, want %+v, %+v", threaded, made, e, want, wantGroups)
	}
	wantMake(t, rels, types, 5, 100)
	if e := wantRead(t, threaded, types, shelf(100, made), 5, 100); e != api.OK {
		t.Errorf("Read: %v", e)
	}
}

// P17.3: from where reading begins, and of which node.
func TestHeads(t *testing.T) {
	rels, types, gs := exampleMade()
	for _, c := range []struct {
		node, head int
		want       api.Errno
	}{
		{5, 4, api.OK}, {5, 5, api.ErrChain}, {5, -1, api.ErrChain}, {9, -1, api.OK}, {math.MinInt, -1, api.OK},
		{5, 3, api.ErrId}, {5, 0, api.ErrId}, {5, 6, api.ErrId}, {5, -2, api.ErrId}, {5, math.MinInt, api.ErrId}, {5, math.MaxInt, api.ErrId},
		{9, 3, api.ErrId}, {6, 4, api.ErrGroup}, {9, 4, api.ErrGroup}, {9, 5, api.ErrGroup},
	} {
		if e := wantRead(t, rels, types, gs, c.node, c.head); e != c.want {
			t.Errorf("Read for %d from %d: %v, want %v", c.node, c.head, e, c.want)
		}
	}
	for _, n := range []int{0, 3, 5} {
		if e := wantRead(t, rels, make([]int, n), gs, 5, 4); e != api.ErrArg {
			t.Errorf("Read with %d types: %v", n, e)
		}
		if e := wantRead(t, rels, make([]int, n), gs, 5, 3); e != api.ErrArg {
			t.Errorf("Read with %d types from no group: %v", n, e)
		}
	}
	if e := wantRead(t, nil, nil, nil, 5, -1); e != api.OK {
		t.Errorf("Read of nothing: %v", e)
	}
	if e := wantRead(t, nil, nil, nil, 5, 0); e != api.ErrId {
		t.Errorf("Read of nothing from 0: %v", e)
	}
}

// parts are the lists that Read takes.
type parts struct {
	rels  []api.Link
	types []int
	gs    []api.Group
}

// rich is node 5 with groups of three types at 2, 0 and 1, in which each chain has two relationships: those of type 10 + k are 6k to 6k + 5, outgoing, incoming and loops. At 3 is a group of node 6, at 4 one that doesn't exist; relationship 18 doesn't touch node 5, and 19 doesn't exist.
func rich() parts {
	var p parts
	for id := range 18 {
		ends := [][2]int{{5, 6}, {5, 7}, {6, 5}, {7, 5}, {5, 5}, {5, 5}}[id%6]
		p.rels = append(p.rels, fresh(ends[0], ends[1]))
		p.types = append(p.types, 10+id/6)
	}
	for id := 0; id < 18; id += 2 {
		if id%6 == 2 {
			p.rels[id].ToNext, p.rels[id+1].ToPrev = id+1, id
		} else {
			p.rels[id].FromNext, p.rels[id+1].FromPrev = id+1, id
		}
	}
	p.rels = append(p.rels, fresh(6, 7), api.Link{From: 5, To: 5})
	p.types = append(p.types, 10, 10)
	group := func(k, next int) api.Group {
		return api.Group{Live: true, Type: 10 + k, Owner: 5, Out: 6 * k, In: 6*k + 2, Loop: 6*k + 4, Next: next}
	}
	p.gs = []api.Group{group(1, 1), group(2, -1), group(0, 0), {Live: true, Type: 13, Owner: 6, Out: 18, In: -1, Loop: -1, Next: -1}, {Type: 13, Owner: 5, Next: -1}}
	return p
}

// fault is something that is wrong with the lists above.
type fault struct {
	what string
	want api.Errno
	turn func(parts)
}

// faults are in the order in which they are examined.
func faults() []fault {
	list := []fault{}
	for i, at := range []int{2, 0, 1} {
		of := func(turn func(g *api.Group)) func(parts) {
			return func(p parts) { turn(&p.gs[at]) }
		}
		rel := func(n int, turn func(r *api.Link)) func(parts) {
			return func(p parts) { turn(&p.rels[6*i+n]) }
		}
		list = append(list,
			fault{"there is no such group", api.ErrId, of(func(g *api.Group) { g.Live = false })},
			fault{"it is another node's", api.ErrGroup, of(func(g *api.Group) { g.Owner = 6 })},
			fault{"no outgoing relationship has that id", api.ErrId, of(func(g *api.Group) { g.Out = 19 })},
			fault{"an outgoing relationship isn't the node's", api.ErrEnd, rel(0, func(r *api.Link) { r.FromNext = 18 })},
			fault{"an outgoing relationship has a wrong prev", api.ErrChain, rel(1, func(r *api.Link) { r.FromPrev = -1 })},
			fault{"an outgoing relationship has another type", api.ErrGroup, func(p parts) { p.types[6*i+1] = 13 }},
			fault{"incoming relationships are in the chain of outgoing ones", api.ErrGroup, of(func(g *api.Group) { g.Out = 6*i + 2 })},
			fault{"loops are in the chain of outgoing ones", api.ErrGroup, of(func(g *api.Group) { g.Out = 6*i + 4 })},
			fault{"an incoming relationship isn't there", api.ErrId, rel(2, func(r *api.Link) { r.ToNext = 20 })},
			fault{"no incoming relationship is the node's", api.ErrEnd, of(func(g *api.Group) { g.In = 18 })},
			fault{"incoming relationships lead back", api.ErrChain, rel(3, func(r *api.Link) { r.ToNext = 6*i + 2 })},
			fault{"an incoming relationship has another type", api.ErrGroup, func(p parts) { p.types[6*i+2] = 13 }},
			fault{"outgoing relationships are in the chain of incoming ones", api.ErrGroup, of(func(g *api.Group) { g.In = 6 * i })},
			fault{"loops are in the chain of incoming ones", api.ErrGroup, of(func(g *api.Group) { g.In = 6*i + 4 })},
			fault{"a loop isn't there", api.ErrId, rel(4, func(r *api.Link) { r.FromNext = -2 })},
			fault{"a loop leads to what isn't the node's", api.ErrEnd, rel(5, func(r *api.Link) { r.FromNext = 18 })},
			fault{"a loop has a ToPrev", api.ErrChain, rel(4, func(r *api.Link) { r.ToPrev = 0 })},
			fault{"a loop has another type", api.ErrGroup, func(p parts) { p.types[6*i+4] = 13 }},
			fault{"outgoing relationships are in the chain of loops", api.ErrGroup, of(func(g *api.Group) { g.Loop = 6 * i })},
			fault{"incoming relationships are in the chain of loops", api.ErrGroup, of(func(g *api.Group) { g.Loop = 6*i + 2 })},
			fault{"all chains are empty", api.ErrGroup, of(func(g *api.Group) { g.Out, g.In, g.Loop = -1, -1, -1 })},
			fault{"the next group isn't there", api.ErrId, of(func(g *api.Group) { g.Next = 4 })},
			fault{"the next group is another node's", api.ErrGroup, of(func(g *api.Group) { g.Next = 3 })},
			fault{"the next group is itself", api.ErrGroup, of(func(g *api.Group) { g.Next = at })},
			fault{"the next group is the first", api.ErrGroup, of(func(g *api.Group) { g.Next = 2 })},
		)
	}
	for i := range 18 {
		list = append(list, fault{"a relationship is in no chain", api.ErrChain, func(p parts) { p.rels = leaveOut(p, i) }})
	}
	return list
}

// leaveOut takes a relationship out of its chain, which has two.
func leaveOut(p parts, id int) []api.Link {
	r := fresh(p.rels[id].From, p.rels[id].To)
	for other := range 18 {
		if other/2 == id/2 {
			p.rels[other] = fresh(p.rels[other].From, p.rels[other].To)
		}
	}
	p.rels[id] = r
	if id%2 == 1 {
		return p.rels
	}
	// The chain begins with the other.
	for i := range p.gs[:3] {
		g := &p.gs[i]
		for _, head := range []*int{&g.Out, &g.In, &g.Loop} {
			if *head == id {
				*head = id + 1
			}
		}
	}
	return p.rels
}

// P17.3: each fault by itself, and of two faults the one that is examined first.
func TestFaults(t *testing.T) {
	p := rich()
	if e := wantRead(t, p.rels, p.types, p.gs, 5, 2); e != api.OK {
		t.Fatalf("Read: %v", e)
	}
	list := faults()
	for i, f := range list {
		p := rich()
		f.turn(p)
		if e := wantRead(t, p.rels, p.types, p.gs, 5, 2); e != f.want {
			t.Errorf("%d: %s: Read: %v, want %v", i, f.what, e, f.want)
		}
		for _, second := range list[i+1:] {
			p := rich()
			second.turn(p)
			f.turn(p)
			wantRead(t, p.rels, p.types, p.gs, 5, 2)
		}
	}
}

// P17.3: the next group's type, below, equal and above; the first may have any.
func TestTypesAscend(t *testing.T) {
	for _, c := range []struct {
		first, second int
		want          api.Errno
	}{
		{1, 2, api.OK}, {2, 2, api.ErrGroup}, {3, 2, api.ErrGroup}, {-1, 0, api.OK}, {0, -1, api.ErrGroup}, {-5, -4, api.OK},
		{math.MinInt, math.MaxInt, api.OK}, {math.MaxInt, math.MinInt, api.ErrGroup}, {math.MinInt, math.MinInt, api.ErrGroup},
	} {
		rels := []api.Link{fresh(1, 2), fresh(1, 2)}
		gs := []api.Group{
			{Live: true, Type: c.first, Owner: 1, Out: 0, In: -1, Loop: -1, Next: 1},
			{Live: true, Type: c.second, Owner: 1, Out: 1, In: -1, Loop: -1, Next: -1},
		}
		if e := wantRead(t, rels, []int{c.first, c.second}, gs, 1, 0); e != c.want {
			t.Errorf("Read of the types %d and %d: %v, want %v", c.first, c.second, e, c.want)
		}
	}
}

// P1, P17.3: readings end, wherever the groups lead back to.
func TestRingsOfGroups(t *testing.T) {
	for size := 1; size < 7; size++ {
		for back := range size {
			var rels []api.Link
			var types []int
			var gs []api.Group
			for id := range size {
				rels, types = append(rels, fresh(1, 1)), append(types, id)
				gs = append(gs, api.Group{Live: true, Type: id, Owner: 1, Out: -1, In: -1, Loop: id, Next: id + 1})
			}
			gs[size-1].Next = back
			for head := range size {
				if e := wantRead(t, rels, types, gs, 1, head); e != api.ErrGroup {
					t.Errorf("Read of a ring of %d from %d: %v", size, head, e)
				}
			}
		}
	}
}

// randomNumber gives mostly ordinary numbers, so that they meet, and some extreme ones.
func randomNumber(rng *rand.Rand, limit int) int {
	if rng.Intn(20) == 0 {
		odd := []int{-1, -2, limit, limit + 1, math.MinInt, math.MaxInt, 1 << 32}
		return odd[rng.Intn(len(odd))]
	}
	return rng.Intn(limit)
}

// randomRels gives relationships between few nodes, with few types.
func randomRels(rng *rand.Rand) ([]api.Link, []int) {
	n := rng.Intn(14)
	rels, types := make([]api.Link, n), make([]int, n)
	for id := range rels {
		rels[id] = api.Link{
			Live: rng.Intn(8) > 0, From: rng.Intn(3), To: rng.Intn(3),
			FromPrev: rng.Intn(9) - 1, FromNext: rng.Intn(9) - 1, ToPrev: rng.Intn(9) - 1, ToNext: rng.Intn(9) - 1,
		}
		types[id] = randomNumber(rng, 4)
	}
	if rng.Intn(20) == 0 {
		types = append(types, 0)[rng.Intn(2)*min(1, n):]
	}
	return rels, types
}

// bend sometimes changes something of the lists.
func bend(rng *rand.Rand, rels []api.Link, types []int, gs []api.Group) {
	r, g := &rels[rng.Intn(len(rels))], &gs[rng.Intn(len(gs))]
	n := randomNumber(rng, len(rels)+1)
	fields := []*int{
		&types[rng.Intn(len(types))], &r.From, &r.To, &r.FromPrev, &r.FromNext, &r.ToPrev, &r.ToNext,
		&g.Type, &g.Owner, &g.Out, &g.In, &g.Loop, &g.Next,
	}
	switch i := rng.Intn(len(fields) + 4); i {
	case len(fields):
		r.Live = !r.Live
	case len(fields) + 1:
		g.Live = !g.Live
	case len(fields) + 2:
		g.Out, g.In, g.Loop = -1, -1, -1
	case len(fields) + 3:
	default:
		*fields[i] = n
	}
}

// P17.1, P17.2, P17.3
func TestRandomLists(t *testing.T) {
	rng := rand.New(rand.NewSource(17))
	made, read := map[api.Errno]int{}, map[api.Errno]int{}
	for range 60000 {
		rels, types := randomRels(rng)
		node, from := randomNumber(rng, 3), rng.Intn(4)
		if rng.Intn(10) == 0 {
			from = 65536 - from
		}
		wantGather(t, rels, types, node)
		e := wantMake(t, rels, types, node, from)
		made[e]++
		if e != api.OK || from > 10 {
			continue
		}
		threaded, gs, _ := groups.Make(rels, types, node, from)
		if len(gs) == 0 {
			wantRead(t, threaded, types, gs, node, -1)
			continue
		}
		all := shelf(from, gs)
		if e := wantRead(t, threaded, types, all, node, from); e != api.OK {
			t.Fatalf("Read of what was made: %v", e)
		}
		for range 1 + rng.Intn(2) {
			bend(rng, threaded, types, all)
		}
		read[wantRead(t, threaded, types, all, node, from)]++
	}
	for _, e := range []api.Errno{api.OK, api.ErrArg} {
		if made[e] < 100 {
			t.Errorf("Make answered %v only %d times", e, made[e])
		}
	}
	for _, e := range []api.Errno{api.OK, api.ErrId, api.ErrEnd, api.ErrGroup, api.ErrChain} {
		if read[e] < 100 {
			t.Errorf("Read answered %v only %d times", e, read[e])
		}
	}
}

// P17.2, P17.3: groups for one node after another, in one list, each read in the end.
func TestAllNodes(t *testing.T) {
	rng := rand.New(rand.NewSource(18))
	for range 500 {
		rels, types := randomRels(rng)
		types = append(types, 0)[:len(rels)]
		var gs []api.Group
		heads := map[int]int{}
		for _, node := range rng.Perm(3) {
			threaded, made, e := groups.Make(rels, types, node, len(gs))
			if e != api.OK {
				t.Fatalf("Make: %v", e)
			}
			heads[node] = -1
			if len(made) > 0 {
				heads[node] = len(gs)
			}
			rels, gs = threaded, append(gs, made...)
		}
		for node, head := range heads {
			b, e := groups.Read(rels, types, gs, node, head)
			if e != api.OK || !sameBunches(b, modelGather(rels, types, node)) {
				t.Fatalf("Read for %d = %v, %v", node, b, e)
			}
		}
	}
}

// P1, P17.2, P17.3: as many groups as there can be, and one more.
func TestManyTypes(t *testing.T) {
	var rels []api.Link
	var types []int
	for id := range 65537 {
		rels, types = append(rels, fresh(id%2, id%3%2)), append(types, -id)
	}
	rels[65536] = fresh(2, 0)
	if threaded, made, e := groups.Make(rels, types, 0, 0); e != api.OK || len(made) == 0 {
		t.Errorf("Make: %v", e)
	} else if b, e := groups.Read(threaded, types, made, 0, 0); e != api.OK || !sameBunches(b, modelGatherOfMany(rels, types)) {
		t.Errorf("Read: %d bunches, %v", len(b), e)
	}
	for id := range rels {
		rels[id] = fresh(0, 1)
	}
	if _, made, e := groups.Make(rels, types, 0, 0); e != api.ErrArg || len(made) != 0 {
		t.Errorf("Make of 65537 groups: %v", e)
	}
	rels, types = rels[1:], types[1:]
	if _, made, e := groups.Make(rels, types, 0, 0); e != api.OK || len(made) != 65536 || made[65534].Next != 65535 || made[65535].Next != -1 {
		t.Errorf("Make of 65536 groups: %d, %v", len(made), e)
	}
	if _, made, e := groups.Make(rels, types, 0, 1); e != api.ErrArg || len(made) != 0 {
		t.Errorf("Make of 65536 groups from 1 on: %v", e)
	}
}

// modelGatherOfMany is modelGather for node 0 and types that are all different and descend.
func modelGatherOfMany(rels []api.Link, types []int) []api.Bunch {
	var bunches []api.Bunch
	for id := len(rels) - 1; id >= 0; id-- {
		b := api.Bunch{Type: types[id]}
		switch way(rels[id], 0) {
		case "out":
			b.Out = []int{id}
		case "in":
			b.In = []int{id}
		case "loop":
			b.Loop = []int{id}
		default:
			continue
		}
		bunches = append(bunches, b)
	}
	return bunches
}

// listsOf gives all lists of bunches with their spare capacity.
func listsOf(bunches []api.Bunch) [][]int {
	var all [][]int
	for _, b := range bunches {
		for _, ids := range [][]int{b.Out, b.In, b.Loop} {
			all = append(all, ids[:cap(ids)])
		}
	}
	return all
}

// fill writes over a list with its spare capacity.
func fill[T any](list []T, with T) {
	list = list[:cap(list)]
	for i := range list {
		list[i] = with
	}
}

// roomy gives a copy of a list whose spare capacity holds something.
func roomy[T any](list []T, with T) (short, whole []T) {
	whole = append(slices.Clone(list), with, with, with)
	return whole[:len(list)], whole
}

// P17.4
func TestMemory(t *testing.T) {
	p := rich()
	oddRel, oddGroup := api.Link{Live: true, From: 5, To: 5, FromNext: 3}, api.Group{Live: true, Owner: 5, Type: 99, Next: 2}
	rels, wholeRels := roomy(p.rels, oddRel)
	types, wholeTypes := roomy(p.types, 88)
	gs, wholeGroups := roomy(p.gs, oddGroup)
	relsBefore, typesBefore, groupsBefore := slices.Clone(wholeRels), slices.Clone(wholeTypes), slices.Clone(wholeGroups)

	gathered := groups.Gather(rels, types, 5)
	again := groups.Gather(rels, types, 5)
	threaded, made, _ := groups.Make(rels, types, 5, 0)
	read, _ := groups.Read(rels, types, gs, 5, 2)
	want := modelGather(p.rels, p.types, 5)
	all := slices.Concat(listsOf(gathered), listsOf(again), listsOf(read))
	for i := range all {
		kept := slices.Clone(all[i])
		fill(all[i], 77)
		for k := range all {
			if i != k && slices.Contains(all[k], 77) {
				t.Fatalf("the lists %d and %d share memory", i, k)
			}
		}
		copy(all[i], kept)
	}
	for _, b := range [][]api.Bunch{gathered, again, read} {
		if !sameBunches(b, want) {
			t.Errorf("%v, want %v", b, want)
		}
	}
	fill(threaded, oddRel)
	fill(made, oddGroup)
	wantUnchanged(t, wholeRels, relsBefore)
	wantUnchanged(t, wholeTypes, typesBefore)
	wantUnchanged(t, wholeGroups, groupsBefore)

	threaded, made, _ = groups.Make(rels, types, 5, 0)
	threadedBefore, madeBefore := slices.Clone(threaded), slices.Clone(made)
	fill(wholeRels, oddRel)
	fill(wholeTypes, 77)
	fill(wholeGroups, oddGroup)
	wantUnchanged(t, threaded, threadedBefore)
	wantUnchanged(t, made, madeBefore)
	for _, b := range [][]api.Bunch{gathered, again, read} {
		if !sameBunches(b, want) {
			t.Error("an answer shares memory with an argument")
		}
	}

	same, _, _ := groups.Make(p.rels, p.types, 99, 0)
	fill(same, oddRel)
	if slices.Contains(p.rels, oddRel) {
		t.Error("the list without chains of the node shares memory with the one given")
	}
}
