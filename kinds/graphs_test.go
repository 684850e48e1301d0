package kinds_test

import (
	"math"
	"math/rand"
	"slices"
	"strconv"
	"strings"

	"satchel/api"
	"satchel/graph"
)

func number(n int64) api.Value { return api.Value{Kind: api.KindInt, Num: n} }

func text(s string) api.Value { return api.Value{Kind: api.KindText, Text: s} }

func prop(key string, v api.Value) api.Prop { return api.Prop{Key: key, Val: v} }

// sample is a graph with several of everything.
func sample() api.Graph {
	props := func() []api.Prop {
		return []api.Prop{prop("a", api.Value{Kind: api.KindInts, Nums: []int64{3, 1, 2}}), prop("b", api.Value{Kind: api.KindTexts, Texts: []string{"b", "", "a,'\""}}), prop("c", text("x"))}
	}
	return api.Graph{
		Nodes: []api.Node{{Id: 1, Labels: []string{"A", "B"}, Props: props()}, {Id: 3, Labels: []string{"B"}, Props: props()}},
		Rels:  []api.Rel{{Id: 0, Type: "T", From: 1, To: 3, Props: props()}, {Id: 2, Type: "T", From: 3, To: 3, Props: props()}},
	}
}

// star is a graph with a dense node.
func star() api.Graph {
	g := api.Graph{Nodes: []api.Node{{Id: 0}, {Id: 1}}}
	for id := range 70 {
		g.Rels = append(g.Rels, api.Rel{Id: 3 * id, Type: string(rune('A' + id%3)), From: id % 2, To: id / 2 % 2})
	}
	return g
}

// full is a graph with as much of everything as there may be.
func full() api.Graph {
	name := func(sort string, i int) string { return sort + strings.Repeat("x", 36) + strconv.Itoa(100+i%200) }
	var g api.Graph
	for id := range api.MaxNodes {
		n := api.Node{Id: id}
		for i := range api.MaxLabels {
			n.Labels = append(n.Labels, name("L", id*8+i))
		}
		for i := range 7 {
			n.Props = append(n.Props, prop(name("k", id*8+i), number(int64(id))))
		}
		g.Nodes = append(g.Nodes, n)
	}
	for i := range api.MaxProps - 7 {
		g.Nodes[0].Props = append(g.Nodes[0].Props, prop(name("k", 7+i), number(math.MinInt64)))
	}
	for id := range api.MaxRels {
		r := api.Rel{Id: id, Type: name("T", id), From: id % 1024, To: 1023 - id%1024}
		for i := range 9 {
			r.Props = append(r.Props, prop(name("k", (id*11+i)%191), number(0)))
		}
		g.Rels = append(g.Rels, r)
	}
	return graph.Canon(g)
}

// laden is a graph with as many properties of one value as the limits allow, in nodes that have no more than these.
func laden(v api.Value) api.Graph {
	var props []api.Prop
	for i := range api.MaxProps {
		props = append(props, prop(string(rune('a'+i)), v))
	}
	var g api.Graph
	weight := graph.Weight(api.Graph{Nodes: []api.Node{{Props: props}}})
	for id := range min(api.MaxNodes, api.MaxWeight/weight) {
		g.Nodes = append(g.Nodes, api.Node{Id: id, Props: slices.Clone(props)})
	}
	return g
}

// longest are values that take the most bytes in one of the texts or stores.
func longest() []api.Value {
	list := func(kind int, n int64) api.Value {
		return api.Value{Kind: kind, Nums: slices.Repeat([]int64{n}, api.MaxList)}
	}
	values := []api.Value{
		{Kind: api.KindBool}, number(math.MinInt64), {Kind: api.KindFloat, Num: math.MinInt64 + 1}, {Kind: api.KindFloat, Num: -4503599627370498}, text(""), text("\x00"), text("'"),
		{Kind: api.KindBools}, list(api.KindBools, 0), list(api.KindInts, math.MinInt64), list(api.KindFloats, math.MinInt64+1), list(api.KindFloats, -4503599627370498),
		{Kind: api.KindTexts, Texts: make([]string, api.MaxList)}, {Kind: api.KindTexts, Texts: []string{strings.Repeat("\"", 900)}},
	}
	for _, c := range []byte("\x00\n\r;'\"\\,\x7f\xff") {
		values = append(values, text(strings.Repeat(string([]byte{c}), api.MaxText)))
	}
	return values
}

// wrongs are graphs that aren't valid, with their errors.
func wrongs() map[api.Errno]api.Graph {
	two := []api.Node{{Id: 0}, {Id: 1}}
	heavy := laden(text(strings.Repeat("x", api.MaxText)))
	heavy.Nodes = append(heavy.Nodes, api.Node{Id: 1023, Props: slices.Clone(heavy.Nodes[0].Props)})
	many := api.Graph{Nodes: two}
	for id := range api.MaxTokens + 1 {
		many.Rels = append(many.Rels, api.Rel{Id: id, Type: "T" + strconv.Itoa(id)})
	}
	return map[api.Errno]api.Graph{
		api.ErrNodeId: {Nodes: []api.Node{{Id: 1024}}},
		api.ErrOrder:  {Nodes: []api.Node{{Id: 1}, {Id: 0}}},
		api.ErrLabels: {Nodes: []api.Node{{Labels: strings.Split("A B C D E F G H I", " ")}}},
		api.ErrName:   {Nodes: []api.Node{{Labels: []string{"A;B"}}}},
		api.ErrProps:  {Nodes: []api.Node{{Props: make([]api.Prop, 17)}}},
		api.ErrBool:   {Nodes: []api.Node{{Props: []api.Prop{prop("b", api.Value{Kind: 1, Num: 2})}}}},
		api.ErrRelId:  {Nodes: two, Rels: []api.Rel{{Id: -1, Type: "T"}}},
		api.ErrEnd:    {Nodes: two, Rels: []api.Rel{{Id: 3, Type: "T", To: 2}}},
		api.ErrKind:   {Nodes: two, Rels: []api.Rel{{Id: 3, Type: "T", Props: []api.Prop{prop("b", api.Value{})}}}},
		api.ErrTokens: many,
		api.ErrWeight: heavy,
	}
}

var (
	someNames = []string{"A", "B", "a", "B2", "_", "Z9", "AB", "ABC", "b", strings.Repeat("L", 40)}
	someTexts = []string{"", "a", ";", "\"", ",", "\r\n", "\\", "i:1", "caf\xc3\xa9", "\x00\xff", "'", strings.Repeat("x", 1000)}
	someNums  = []int64{0, 1, -1, 258, math.MinInt64, math.MaxInt64}
)

// some gives up to n different names, in order.
func some(rng *rand.Rand, n int) []string {
	var chosen []string
	for _, i := range rng.Perm(len(someNames))[:rng.Intn(n+1)] {
		chosen = append(chosen, someNames[i])
	}
	slices.Sort(chosen)
	return chosen
}

func randomValue(rng *rand.Rand) api.Value {
	kind := 1 + rng.Intn(8)
	v := api.Value{Kind: kind}
	draw := func(scalar int) int64 {
		n := someNums[rng.Intn(len(someNums))]
		switch scalar {
		case api.KindBool:
			return n & 1
		case api.KindFloat:
			return int64(math.Float64bits(float64(n)))
		}
		return n
	}
	switch {
	case kind < api.KindText:
		v.Num = draw(kind)
	case kind == api.KindText:
		v.Text = someTexts[rng.Intn(len(someTexts))]
	case kind == api.KindTexts:
		v.Texts = slices.Repeat([]string{someTexts[rng.Intn(len(someTexts))]}, rng.Intn(3))
	default:
		for range rng.Intn(4) {
			v.Nums = append(v.Nums, draw(kind-api.ListOf))
		}
	}
	return v
}

func randomProps(rng *rand.Rand) []api.Prop {
	var props []api.Prop
	for _, key := range some(rng, 5) {
		props = append(props, prop(key, randomValue(rng)))
	}
	return props
}

func randomGraph(rng *rand.Rand) api.Graph {
	var g api.Graph
	id := rng.Intn(3)
	for range rng.Intn(6) {
		g.Nodes = append(g.Nodes, api.Node{Id: id, Labels: some(rng, 8), Props: randomProps(rng)})
		id += 1 + rng.Intn(200)
	}
	id = rng.Intn(600)
	for range min(rng.Intn(6), 6*len(g.Nodes)) {
		from, to := g.Nodes[rng.Intn(len(g.Nodes))].Id, g.Nodes[rng.Intn(len(g.Nodes))].Id
		g.Rels = append(g.Rels, api.Rel{Id: id, Type: someNames[rng.Intn(10)], From: from, To: to, Props: randomProps(rng)})
		id += 1 + rng.Intn(200)
	}
	return g
}
