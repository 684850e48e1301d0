package links_test

import (
	"math"
	"math/rand"
	"slices"
	"testing"

	"satchel/api"
	"satchel/links"
)

// fresh is a live relationship that stands in no chain.
func fresh(from, to int) api.Link {
	return api.Link{Live: true, From: from, To: to, FromPrev: -1, ToPrev: -1, FromNext: -1, ToNext: -1}
}

// example are the document's three relationships, and one that doesn't exist.
func example() []api.Link {
	return []api.Link{fresh(5, 6), fresh(5, 5), fresh(6, 5), {From: 5, To: 5}}
}

// model has the document's words, each as a question to one relationship.
type model []api.Link

func (m model) exists(id int) bool {
	return id >= 0 && id < len(m) && m[id].Live
}

func (m model) touches(id, node int) bool {
	return m[id].From == node || m[id].To == node
}

func (m model) isLoop(id, node int) bool {
	return m[id].From == node && m[id].To == node
}

func (m model) prev(id, node int) int {
	if m[id].From == node {
		return m[id].FromPrev
	}
	return m[id].ToPrev
}

func (m model) next(id, node int) int {
	if m[id].From == node {
		return m[id].FromNext
	}
	return m[id].ToNext
}

// unfit is the error of an id that both Thread and Walk tell.
func (m model) unfit(id, node int) api.Errno {
	switch {
	case !m.exists(id):
		return api.ErrId
	case !m.touches(id, node):
		return api.ErrEnd
	}
	return api.OK
}

func (m model) incident(node int) []int {
	var ids []int
	for id := 0; id < len(m); id++ {
		if m.unfit(id, node) == api.OK {
			ids = append(ids, id)
		}
	}
	return ids
}

func (m model) walk(node, head int) ([]int, api.Errno) {
	path := []int{-1}
	for id := head; id != -1; id = m.next(id, node) {
		if e := m.unfit(id, node); e != api.OK {
			return nil, e
		}
		if m.prev(id, node) != path[len(path)-1] {
			return nil, api.ErrChain
		}
		if m.isLoop(id, node) && (m[id].ToPrev != -1 || m[id].ToNext != -1) {
			return nil, api.ErrChain
		}
		path = append(path, id)
	}
	return path[1:], api.OK
}

func (m model) thread(node int, order []int) (model, api.Errno) {
	for i, id := range order {
		if e := m.unfit(id, node); e != api.OK {
			return nil, e
		}
		if slices.Contains(order[:i], id) {
			return nil, api.ErrTwice
		}
	}
	out := append(model{}, m...)
	chain := slices.Concat([]int{-1}, order, []int{-1})
	for i, id := range order {
		before, behind := chain[i], chain[i+2]
		switch {
		case m.isLoop(id, node):
			out[id] = api.Link{Live: true, From: node, To: node, FromPrev: before, FromNext: behind, ToPrev: -1, ToNext: -1}
		case m[id].From == node:
			out[id].FromPrev, out[id].FromNext = before, behind
		default:
			out[id].ToPrev, out[id].ToNext = before, behind
		}
	}
	return out, api.OK
}

// nothingBeside tells whether no list is answered beside an error.
func nothingBeside(length int, e api.Errno) bool {
	return e == api.OK || length == 0
}

func wantIncident(t *testing.T, rels []api.Link, node int) {
	t.Helper()
	want := model(rels).incident(node)
	if got := links.Incident(rels, node); !slices.Equal(got, want) {
		t.Fatalf("Incident(%+v, %d) = %v, want %v", rels, node, got, want)
	}
}

func wantThread(t *testing.T, rels []api.Link, node int, order []int) api.Errno {
	t.Helper()
	want, wrong := model(rels).thread(node, order)
	got, e := links.Thread(rels, node, order)
	if e != wrong || !slices.Equal(got, want) || !nothingBeside(len(got), e) {
		t.Fatalf("Thread(%+v, %d, %v) = %+v, %v, want %+v, %v", rels, node, order, got, e, want, wrong)
	}
	return e
}

func wantWalk(t *testing.T, rels []api.Link, node, head int) api.Errno {
	t.Helper()
	want, wrong := model(rels).walk(node, head)
	got, e := links.Walk(rels, node, head)
	if e != wrong || !slices.Equal(got, want) || !nothingBeside(len(got), e) {
		t.Fatalf("Walk(%+v, %d, %d) = %v, %v, want %v, %v", rels, node, head, got, e, want, wrong)
	}
	return e
}

// The document's example, number by number.

// P13.1, P13.2, P13.3
func TestExample(t *testing.T) {
	rels := example()
	if ids := links.Incident(rels, 5); !slices.Equal(ids, []int{0, 1, 2}) {
		t.Errorf("Incident of 5 = %v", ids)
	}
	if ids := links.Incident(rels, 6); !slices.Equal(ids, []int{0, 2}) {
		t.Errorf("Incident of 6 = %v", ids)
	}
	x, e := links.Thread(rels, 5, []int{2, 0, 1})
	want := []api.Link{
		{Live: true, From: 5, To: 6, FromPrev: 2, FromNext: 1, ToPrev: -1, ToNext: -1},
		{Live: true, From: 5, To: 5, FromPrev: 0, FromNext: -1, ToPrev: -1, ToNext: -1},
		{Live: true, From: 6, To: 5, FromPrev: -1, FromNext: -1, ToPrev: -1, ToNext: 0},
		{From: 5, To: 5},
	}
	if e != api.OK || !slices.Equal(x, want) {
		t.Fatalf("Thread = %+v, %v, want %+v", x, e, want)
	}
	if ids, e := links.Walk(x, 5, 2); e != api.OK || !slices.Equal(ids, []int{2, 0, 1}) {
		t.Errorf("Walk for 5 from 2 = %v, %v", ids, e)
	}
	for _, c := range []struct {
		node, head int
		want       api.Errno
	}{
		{5, 0, api.ErrChain}, {6, 1, api.ErrEnd}, {6, 3, api.ErrId}, {5, 3, api.ErrId}, {5, 4, api.ErrId}, {5, -2, api.ErrId},
		{5, math.MinInt, api.ErrId}, {5, math.MaxInt, api.ErrId}, {7, 0, api.ErrEnd}, {5, -1, api.OK}, {7, -1, api.OK},
	} {
		if ids, e := links.Walk(x, c.node, c.head); e != c.want || len(ids) != 0 {
			t.Errorf("Walk(%d, %d) = %v, %v, want %v", c.node, c.head, ids, e, c.want)
		}
	}
}

// P13.2: a loop's other side is set, whatever it was; nothing else is.
func TestThreadFields(t *testing.T) {
	full := api.Link{Live: true, FromPrev: 11, FromNext: 12, ToPrev: 13, ToNext: 14}
	rels := []api.Link{full, full, full, full}
	rels[0].From, rels[0].To = 5, 6
	rels[1].From, rels[1].To = 5, 5
	rels[2].From, rels[2].To = 6, 5
	rels[3].From, rels[3].To = 6, 6
	x, e := links.Thread(rels, 5, []int{1, 2, 0})
	want := slices.Clone(rels)
	want[1].FromPrev, want[1].FromNext, want[1].ToPrev, want[1].ToNext = -1, 2, -1, -1
	want[2].ToPrev, want[2].ToNext = 1, 0
	want[0].FromPrev, want[0].FromNext = 2, -1
	if e != api.OK || !slices.Equal(x, want) {
		t.Errorf("Thread = %+v, %v, want %+v", x, e, want)
	}
	if x, e := links.Thread(rels, 5, nil); e != api.OK || !slices.Equal(x, rels) {
		t.Errorf("Thread without an order = %+v, %v", x, e)
	}
	if x, e := links.Thread(nil, 5, []int{}); e != api.OK || len(x) != 0 {
		t.Errorf("Thread of nothing = %+v, %v", x, e)
	}
}

// P13.2: ids are examined one after another, each for all errors.
func TestThreadErrors(t *testing.T) {
	for _, c := range []struct {
		node  int
		order []int
		want  api.Errno
	}{
		{5, []int{3}, api.ErrId}, {5, []int{-1}, api.ErrId}, {5, []int{4}, api.ErrId}, {5, []int{0, -2}, api.ErrId},
		{5, []int{math.MinInt}, api.ErrId}, {5, []int{math.MaxInt}, api.ErrId}, {5, []int{3, 3}, api.ErrId},
		{6, []int{1}, api.ErrEnd}, {6, []int{0, 1, 3}, api.ErrEnd}, {6, []int{1, 1}, api.ErrEnd}, {7, []int{2}, api.ErrEnd},
		{5, []int{0, 0}, api.ErrTwice}, {5, []int{0, 1, 2, 1}, api.ErrTwice}, {5, []int{0, 0, 3}, api.ErrTwice}, {6, []int{0, 2, 0, 1}, api.ErrTwice},
		{6, []int{3, 1}, api.ErrId}, {6, []int{1, 3}, api.ErrEnd},
	} {
		if x, e := links.Thread(example(), c.node, c.order); e != c.want || len(x) != 0 {
			t.Errorf("Thread(%d, %v) = %+v, %v, want %v", c.node, c.order, x, e, c.want)
		}
	}
}

// P13.3: each thing that can be wrong in the middle of a chain, and with a loop.
func TestWalkErrors(t *testing.T) {
	threaded := func(turn func([]api.Link)) []api.Link {
		x, _ := links.Thread(append(example(), fresh(8, 9)), 5, []int{2, 0, 1})
		turn(x)
		return x
	}
	for i, c := range []struct {
		turn func([]api.Link)
		want api.Errno
	}{
		{func(x []api.Link) {}, api.OK},
		{func(x []api.Link) { x[0].Live = false }, api.ErrId},
		{func(x []api.Link) { x[1].Live = false }, api.ErrId},
		{func(x []api.Link) { x[1].FromNext = 3 }, api.ErrId},
		{func(x []api.Link) { x[1].FromNext = 5 }, api.ErrId},
		{func(x []api.Link) { x[1].FromNext = -2 }, api.ErrId},
		{func(x []api.Link) { x[0].From = 6 }, api.ErrEnd},
		{func(x []api.Link) { x[1].FromNext = 4 }, api.ErrEnd},
		{func(x []api.Link) { x[2].ToPrev = 0 }, api.ErrChain},
		{func(x []api.Link) { x[0].FromPrev = -1 }, api.ErrChain},
		{func(x []api.Link) { x[0].FromPrev = -2 }, api.ErrChain},
		{func(x []api.Link) { x[1].FromPrev = 2 }, api.ErrChain},
		{func(x []api.Link) { x[1].ToPrev = 0 }, api.ErrChain},
		{func(x []api.Link) { x[1].ToPrev = -2 }, api.ErrChain},
		{func(x []api.Link) { x[1].ToNext = 0 }, api.ErrChain},
		{func(x []api.Link) { x[1].ToNext = -2 }, api.ErrChain},
		{func(x []api.Link) { x[1].FromNext = 1 }, api.ErrChain},
		{func(x []api.Link) { x[1].FromNext = 0 }, api.ErrChain},
		{func(x []api.Link) { x[1].FromNext = 2 }, api.ErrChain},
		{func(x []api.Link) { x[0].ToPrev, x[0].ToNext = 7, 7 }, api.OK},
		{func(x []api.Link) { x[2].FromPrev, x[2].FromNext = 7, 7 }, api.OK},
	} {
		var want []int
		if c.want == api.OK {
			want = []int{2, 0, 1}
		}
		if ids, e := links.Walk(threaded(c.turn), 5, 2); e != c.want || !slices.Equal(ids, want) {
			t.Errorf("%d: Walk = %v, %v, want %v", i, ids, e, c.want)
		}
	}
}

// P13.3: several errors at one id.
func TestWalkFirstError(t *testing.T) {
	loop := fresh(5, 5)
	loop.FromPrev, loop.ToPrev, loop.ToNext = 3, 3, 3
	dead := loop
	dead.Live = false
	for i, c := range []struct {
		r    api.Link
		node int
		want api.Errno
	}{{dead, 6, api.ErrId}, {loop, 6, api.ErrEnd}, {loop, 5, api.ErrChain}} {
		if ids, e := links.Walk([]api.Link{c.r}, c.node, 0); e != c.want || len(ids) != 0 {
			t.Errorf("%d: Walk = %v, %v, want %v", i, ids, e, c.want)
		}
	}
}

// P1, P13.3: walks end, wherever the chain leads back to.
func TestWalkOfRings(t *testing.T) {
	for size := 1; size < 9; size++ {
		for back := range size {
			var rels []api.Link
			for id := range size {
				r := fresh(0, id%3)
				r.FromPrev, r.FromNext = id-1, id+1
				rels = append(rels, r)
			}
			rels[size-1].FromNext = back
			for head := range size {
				wantWalk(t, rels, 0, head)
			}
			rels[0].FromPrev = size - 1
			wantWalk(t, rels, 0, 0)
		}
	}
}

// numbers from which the random lists below are made: few ordinary ones, so that they meet, and some extreme ones.
func randomNumber(rng *rand.Rand, limit int) int {
	if rng.Intn(12) == 0 {
		odd := []int{-1, -2, limit, limit + 1, math.MinInt, math.MaxInt, 1 << 32}
		return odd[rng.Intn(len(odd))]
	}
	return rng.Intn(limit)
}

func randomRels(rng *rand.Rand) []api.Link {
	rels := make([]api.Link, rng.Intn(6))
	for id := range rels {
		near := func() int { return randomNumber(rng, 6) - rng.Intn(2) }
		rels[id] = api.Link{
			Live: rng.Intn(6) > 0, From: randomNumber(rng, 3), To: randomNumber(rng, 3),
			FromPrev: near(), FromNext: near(), ToPrev: near(), ToNext: near(),
		}
	}
	return rels
}

// randomOrder is some of the node's relationships in any order, and sometimes another id among them.
func randomOrder(rng *rand.Rand, rels []api.Link, node int) []int {
	order := model(rels).incident(node)
	rng.Shuffle(len(order), func(i, k int) { order[i], order[k] = order[k], order[i] })
	order = order[:rng.Intn(len(order)+1)]
	if rng.Intn(3) == 0 {
		order = slices.Insert(order, rng.Intn(len(order)+1), randomNumber(rng, 6))
	}
	return order
}

// P13.1, P13.2, P13.3
func TestRandomLists(t *testing.T) {
	rng := rand.New(rand.NewSource(13))
	threads, walks := map[api.Errno]int{}, map[api.Errno]int{}
	for range 60000 {
		rels := randomRels(rng)
		node := randomNumber(rng, 3)
		wantIncident(t, rels, node)
		wantWalk(t, rels, node, randomNumber(rng, 6))
		order := randomOrder(rng, rels, node)
		e := wantThread(t, rels, node, order)
		threads[e]++
		if e == api.OK && len(order) > 0 {
			rels, _ = links.Thread(rels, node, order)
			bend(rng, rels)
			walks[wantWalk(t, rels, node, order[0])]++
		}
	}
	for _, e := range []api.Errno{api.OK, api.ErrId, api.ErrEnd, api.ErrTwice} {
		if threads[e] < 100 {
			t.Errorf("Thread answered %v only %d times", e, threads[e])
		}
	}
	for _, e := range []api.Errno{api.OK, api.ErrId, api.ErrEnd, api.ErrChain} {
		if walks[e] < 100 {
			t.Errorf("Walk answered %v only %d times", e, walks[e])
		}
	}
}

// bend sometimes changes one field of one relationship.
func bend(rng *rand.Rand, rels []api.Link) {
	r := &rels[rng.Intn(len(rels))]
	n := randomNumber(rng, 6)
	switch rng.Intn(12) {
	case 0:
		r.Live = !r.Live
	case 1:
		r.From = n
	case 2:
		r.To = n
	case 3:
		r.FromPrev = n
	case 4:
		r.FromNext = n
	case 5:
		r.ToPrev = n
	case 6:
		r.ToNext = n
	}
}

// P13.2, P13.3: after Thread for every node, each node's walk visits its own order, whatever was threaded afterwards.
func TestChainsOfAllNodes(t *testing.T) {
	rng := rand.New(rand.NewSource(14))
	for range 500 {
		var rels []api.Link
		for range rng.Intn(30) {
			rels = append(rels, api.Link{Live: rng.Intn(5) > 0, From: rng.Intn(4), To: rng.Intn(4), FromPrev: 9, FromNext: 9, ToPrev: 9, ToNext: 9})
		}
		orders := map[int][]int{}
		for _, node := range rng.Perm(4) {
			order := links.Incident(rels, node)
			rng.Shuffle(len(order), func(i, k int) { order[i], order[k] = order[k], order[i] })
			var e api.Errno
			if rels, e = links.Thread(rels, node, order); e != api.OK {
				t.Fatalf("Thread for %d with %v: %v", node, order, e)
			}
			orders[node] = order
		}
		for node, order := range orders {
			head := -1
			if len(order) > 0 {
				head = order[0]
			}
			if ids, e := links.Walk(rels, node, head); e != api.OK || !slices.Equal(ids, order) {
				t.Fatalf("Walk for %d = %v, %v, want %v", node, ids, e, order)
			}
		}
	}
}

// P13.1 to P13.3: the greatest list that a store has.
func TestLongChain(t *testing.T) {
	var rels []api.Link
	var order []int
	for id := range api.MaxRels {
		rels = append(rels, fresh(id%2, (id+1)%2))
		order = append(order, id)
	}
	wantIncident(t, rels, 1)
	slices.Reverse(order)
	x, e := links.Thread(rels, 1, order)
	if e != api.OK {
		t.Fatalf("Thread: %v", e)
	}
	if ids, e := links.Walk(x, 1, order[0]); e != api.OK || !slices.Equal(ids, order) {
		t.Errorf("Walk: %d ids, %v", len(ids), e)
	}
}

func smudge[T any](list []T, with T) {
	list = list[:cap(list)]
	for i := range list {
		list[i] = with
	}
}

// P13.4
func TestMemory(t *testing.T) {
	odd := api.Link{Live: true, From: 77, To: 78, FromPrev: 79, FromNext: 80, ToPrev: 81, ToNext: 82}
	whole := slices.Repeat([]api.Link{odd}, 9)
	rels := whole[:copy(whole, example())]
	places := slices.Repeat([]int{77}, 9)
	order := places[:copy(places, []int{2, 0, 1})]
	wholeBefore, placesBefore := slices.Clone(whole), slices.Clone(places)

	incident := links.Incident(rels, 5)
	x, _ := links.Thread(rels, 5, order)
	same, _ := links.Thread(rels, 5, nil)
	ids, _ := links.Walk(x, 5, 2)
	xBefore := slices.Clone(x)
	smudge(same, odd)
	smudge(incident, 88)
	smudge(ids, 88)
	if !slices.Equal(whole, wholeBefore) || !slices.Equal(places, placesBefore) || !slices.Equal(x, xBefore) {
		t.Error("an argument has changed, or an answer shares memory with one")
	}

	smudge(whole, odd)
	smudge(places, 88)
	if !slices.Equal(x, xBefore) {
		t.Error("the threaded list shares memory with an argument")
	}
	ids, _ = links.Walk(x, 5, 2)
	smudge(x, odd)
	if !slices.Equal(ids, []int{2, 0, 1}) {
		t.Error("the ids of a walk share memory with the list")
	}
}

// P2
func TestTwice(t *testing.T) {
	x, _ := links.Thread(example(), 5, []int{2, 0, 1})
	y, _ := links.Thread(example(), 5, []int{2, 0, 1})
	if !slices.Equal(x, y) {
		t.Error("two calls of Thread answer differently")
	}
}
