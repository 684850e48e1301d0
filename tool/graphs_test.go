package tool_test

import (
	"math"
	"math/rand"
	"slices"
	"strings"

	"satchel/api"
)

func prop(key string, v api.Value) api.Prop { return api.Prop{Key: key, Val: v} }

func number(n int64) api.Value { return api.Value{Kind: api.KindInt, Num: n} }

func text(s string) api.Value { return api.Value{Kind: api.KindText, Text: s} }

// sample is a graph with several of everything.
func sample() api.Graph {
	props := func() []api.Prop {
		return []api.Prop{prop("a", api.Value{Kind: api.KindInts, Nums: []int64{3, 1, 2}}), prop("b", api.Value{Kind: api.KindTexts, Texts: []string{"b", "", "a,'\""}}), prop("c", text("x"))}
	}
	return api.Graph{
		Nodes: []api.Node{{Id: 1, Labels: []string{"A", "B"}, Props: props()}, {Id: 3, Labels: []string{"B"}, Props: props()}, {Id: 4}},
		Rels:  []api.Rel{{Id: 0, Type: "T", From: 1, To: 3, Props: props()}, {Id: 2, Type: "T", From: 3, To: 3, Props: props()}},
	}
}

// single is a graph with one node.
func single() api.Graph { return api.Graph{Nodes: []api.Node{{Id: 1}}} }

// star is a graph with a node of so many relationships, which are of two types.
func star(degree int) api.Graph {
	g := api.Graph{Nodes: []api.Node{{Id: 0}}}
	for i := range degree {
		g.Nodes = append(g.Nodes, api.Node{Id: i + 1})
		g.Rels = append(g.Rels, api.Rel{Id: i, Type: string(rune('A' + i%2)), From: 0, To: i + 1})
	}
	return g
}

var (
	someNames = []string{"A", "B", "a", "B2", "_", "Z9", "AB", "b", strings.Repeat("L", 40)}
	someTexts = []string{"", "a", ";", "\"", ",", "\r\n", "\\", "i:1", "caf\xc3\xa9", "\x00\xff", "'", strings.Repeat("x", 1000)}
	someNums  = []int64{0, 1, -1, 258, math.MinInt64, math.MaxInt64}
)

// some gives up to n different names, in order.
func some(rng *rand.Rand, n int) []string {
	var chosen []string
	for _, i := range rng.Perm(len(someNames))[:rng.Intn(n+1)] {
		chosen = append(chosen, someNames[i])
	}
	slices.Sort(chosen)
	return chosen
}

func randomProps(rng *rand.Rand) []api.Prop {
	var props []api.Prop
	for _, key := range some(rng, 5) {
		v := []api.Value{
			{Kind: api.KindBool, Num: int64(rng.Intn(2))},
			number(someNums[rng.Intn(len(someNums))]),
			{Kind: api.KindFloat, Num: int64(math.Float64bits(rng.NormFloat64()))},
			text(someTexts[rng.Intn(len(someTexts))]),
			{Kind: api.KindInts, Nums: slices.Clone(someNums[:rng.Intn(len(someNums))])},
			{Kind: api.KindTexts, Texts: slices.Clone(someTexts[:rng.Intn(len(someTexts))])},
		}[rng.Intn(6)]
		props = append(props, prop(key, v))
	}
	return props
}

func randomGraph(rng *rand.Rand) api.Graph {
	var g api.Graph
	id := rng.Intn(3)
	for range rng.Intn(6) {
		g.Nodes = append(g.Nodes, api.Node{Id: id, Labels: some(rng, 8), Props: randomProps(rng)})
		id += 1 + rng.Intn(200)
	}
	id = rng.Intn(600)
	for range min(rng.Intn(6), 6*len(g.Nodes)) {
		from, to := g.Nodes[rng.Intn(len(g.Nodes))].Id, g.Nodes[rng.Intn(len(g.Nodes))].Id
		g.Rels = append(g.Rels, api.Rel{Id: id, Type: someNames[rng.Intn(9)], From: from, To: to, Props: randomProps(rng)})
		id += 1 + rng.Intn(200)
	}
	return g
}
