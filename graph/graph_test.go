package graph_test

import (
	"math"
	"reflect"
	"slices"
	"strconv"
	"strings"
	"testing"

	"satchel/api"
	"satchel/graph"
	"satchel/value"
)

func num(n int64) api.Value { return api.Value{Kind: api.KindInt, Num: n} }

func text(s string) api.Value { return api.Value{Kind: api.KindText, Text: s} }

func prop(key string, v api.Value) api.Prop { return api.Prop{Key: key, Val: v} }

// spare is a number of elements that no function may touch.
const spare = 3

// roomy copies a list into memory with room behind it.
func roomy[T any](list []T) []T {
	all := make([]T, len(list)+spare)
	copy(all, list)
	return all[:len(list)]
}

// roomyGraph copies a graph, each list with room behind it.
func roomyGraph(g api.Graph) api.Graph {
	props := func(list []api.Prop) []api.Prop {
		list = roomy(list)
		for i := range list {
			list[i].Val.Nums = roomy(list[i].Val.Nums)
			list[i].Val.Texts = roomy(list[i].Val.Texts)
		}
		return list
	}
	c := api.Graph{Nodes: roomy(g.Nodes), Rels: roomy(g.Rels)}
	for i, n := range c.Nodes {
		c.Nodes[i].Labels = roomy(n.Labels)
		c.Nodes[i].Props = props(n.Props)
	}
	for i, r := range c.Rels {
		c.Rels[i].Props = props(r.Props)
	}
	return c
}

// wholly gives a graph with its lists up to their capacities.
func wholly(g api.Graph) api.Graph {
	props := func(list []api.Prop) []api.Prop {
		list = slices.Clone(list[:cap(list)])
		for i, p := range list {
			list[i].Val.Nums = p.Val.Nums[:cap(p.Val.Nums)]
			list[i].Val.Texts = p.Val.Texts[:cap(p.Val.Texts)]
		}
		return list
	}
	w := api.Graph{Nodes: slices.Clone(g.Nodes[:cap(g.Nodes)]), Rels: slices.Clone(g.Rels[:cap(g.Rels)])}
	for i, n := range w.Nodes {
		w.Nodes[i].Labels = n.Labels[:cap(n.Labels)]
		w.Nodes[i].Props = props(n.Props)
	}
	for i, r := range w.Rels {
		w.Rels[i].Props = props(r.Props)
	}
	return w
}

// spoil overwrites all that the lists of a graph reach.
func spoil(g api.Graph) {
	props := func(list []api.Prop) {
		for _, p := range list {
			for i := range p.Val.Nums {
				p.Val.Nums[i] = -77
			}
			for i := range p.Val.Texts {
				p.Val.Texts[i] = "spoilt"
			}
		}
		for i := range list {
			list[i] = prop("spoilt", num(-77))
		}
	}
	g = wholly(g)
	for _, n := range g.Nodes {
		for i := range n.Labels {
			n.Labels[i] = "spoilt"
		}
		props(n.Props)
	}
	for _, r := range g.Rels {
		props(r.Props)
	}
}

// spoilLists overwrites the two lists of a graph itself, with their room.
func spoilLists(g api.Graph) {
	nodes, rels := g.Nodes[:cap(g.Nodes)], g.Rels[:cap(g.Rels)]
	for i := range nodes {
		nodes[i] = api.Node{Id: -77}
	}
	for i := range rels {
		rels[i] = api.Rel{Id: -77, From: -77, To: -77}
	}
}

// base is a valid graph with several of everything.
func base() api.Graph {
	return api.Graph{
		Nodes: []api.Node{
			{Id: 0, Labels: []string{"A", "B", "C"}, Props: []api.Prop{prop("a", num(7)), prop("b", text("xy")), prop("c", api.Value{Kind: api.KindTexts, Texts: []string{"p", "", "q"}})}},
			{Id: 3, Labels: []string{"B"}, Props: []api.Prop{prop("b", api.Value{Kind: api.KindInts, Nums: []int64{3, 1, 2}})}},
			{Id: 7},
			{Id: 1023, Labels: []string{"A", "D"}},
		},
		Rels: []api.Rel{
			{Id: 1, Type: "T", From: 0, To: 3, Props: []api.Prop{prop("a", api.Value{Kind: api.KindBool, Num: 1}), prop("k", num(-1))}},
			{Id: 2, Type: "S", From: 3, To: 3},
			{Id: 9, Type: "T", From: 7, To: 0, Props: []api.Prop{prop("z", api.Value{Kind: api.KindFloats, Nums: []int64{0}})}},
			{Id: 2047, Type: "U", From: 1023, To: 7},
		},
	}
}

// messy is a graph of which hardly anything is valid, with elements that are equal in the orders.
func messy() api.Graph {
	return api.Graph{
		Nodes: []api.Node{
			{Id: 5, Labels: []string{"b", "", "a b", "b", "B", "a", "é", "_", "aa", "9"}, Props: []api.Prop{prop("k", num(2)), prop("", num(1)), prop("k", num(1)), prop("K", api.Value{Kind: 77, Num: 1}), prop("k", num(2)), prop("kk", text("t")), prop("k", text("u"))}},
			{Id: -1, Labels: []string{"x", "x"}},
			{Id: 5, Labels: []string{"first"}},
			{Id: math.MaxInt, Props: []api.Prop{prop("é", api.Value{Kind: 6, Nums: []int64{2, 1}}), prop("é", api.Value{Kind: 8, Texts: []string{"b", "a"}})}},
			{Id: 5},
			{Id: math.MinInt, Labels: make([]string, 20), Props: make([]api.Prop, 20)},
			{Id: 2000, Labels: []string{"y"}},
			{Id: -1, Labels: []string{"y"}},
		},
		Rels: []api.Rel{
			{Id: 9, Type: "t", From: 5, To: 5, Props: []api.Prop{prop("z", num(1)), prop("a", num(1)), prop("a", num(0))}},
			{Id: 3, Type: "", From: 5, To: -1},
			{Id: 9, Type: "s", From: 4, To: 5},
			{Id: -9, Type: "a b", From: -1, To: math.MinInt},
			{Id: 9, Type: "t", From: math.MaxInt, To: 0, Props: []api.Prop{prop("q", api.Value{Kind: 2, Num: 1, Text: "a"})}},
			{Id: 4000, Type: "T", From: 5, To: 5},
			{Id: 3, Type: "", From: -1, To: 5},
		},
	}
}

func graphs() []api.Graph {
	return []api.Graph{{}, {Nodes: []api.Node{}, Rels: []api.Rel{}}, base(), messy(), {Nodes: messy().Nodes}, {Rels: messy().Rels}, {Nodes: base().Nodes, Rels: messy().Rels}}
}

// P6.1

func TestGoodNameOfEachByte(t *testing.T) {
	const letters = "abcdefghijklmnopqrstuvwxyzABCDEFGHIJKLMNOPQRSTUVWXYZ_"
	for c := range 256 {
		s := string([]byte{byte(c)})
		letter := strings.Contains(letters, s)
		digit := strings.Contains("0123456789", s)
		if graph.GoodName(s) != letter {
			t.Errorf("GoodName(%q) isn't %v", s, letter)
		}
		for _, name := range []string{"a" + s, "Z" + s + "9", "_0" + s, "_" + s + "_", strings.Repeat("x", 39) + s} {
			if graph.GoodName(name) != (letter || digit) {
				t.Errorf("GoodName(%q) isn't %v", name, letter || digit)
			}
		}
		if graph.GoodName(s+"a") != letter || graph.GoodName(s+strings.Repeat("x", 39)) != letter {
			t.Errorf("GoodName of %q and letters isn't %v", s, letter)
		}
	}
}

func TestGoodNameOfEachLength(t *testing.T) {
	for n := range 300 {
		for _, c := range []string{"a", "Q", "_"} {
			if graph.GoodName(strings.Repeat(c, n)) != (n >= 1 && n <= 40) {
				t.Errorf("GoodName of %d times %q isn't %v", n, c, !graph.GoodName(strings.Repeat(c, n)))
			}
		}
	}
	for _, s := range []string{"", "é", "aé", "a b", " a", "a ", "a-b", "a.b", "a\x00", "a\n", "٣", "a٣", "0", "0a", strings.Repeat("x", 3000000)} {
		if graph.GoodName(s) {
			t.Errorf("GoodName(%.60q) is true", s)
		}
	}
	for _, s := range []string{"a", "_", "Z", "_9", "a0", "KNOWS", "CREATE", "name_of_2", "__"} {
		if !graph.GoodName(s) {
			t.Errorf("GoodName(%q) is false", s)
		}
	}
}

// P6.2

func wantCheck(t *testing.T, what string, g api.Graph, e api.Errno, at int) {
	t.Helper()
	if got, place := graph.Check(g); got != e || place != at {
		t.Errorf("%s: Check = %v, %d, want %v, %d", what, got, place, e, at)
	}
}

func TestCheckOfValidGraphs(t *testing.T) {
	wantCheck(t, "none", api.Graph{}, api.OK, 0)
	wantCheck(t, "empty", api.Graph{Nodes: []api.Node{}, Rels: []api.Rel{}}, api.OK, 0)
	wantCheck(t, "base", base(), api.OK, 0)
	wantCheck(t, "one node", api.Graph{Nodes: []api.Node{{Id: 1023, Labels: []string{}, Props: []api.Prop{}}}}, api.OK, 0)
	wantCheck(t, "a loop", api.Graph{Nodes: []api.Node{{}}, Rels: []api.Rel{{Type: "T"}}}, api.OK, 0)
}

// wrong is a fault that can be put into base.
type wrong struct {
	part string // two faults of one part can't be put in together
	e    api.Errno
	at   int
	turn func(*api.Graph)
}

// manyProps gives valid properties.
func manyProps(count int) []api.Prop {
	var all []api.Prop
	for i := range count {
		all = append(all, prop("k"+string(rune('A'+i)), num(0)))
	}
	return all
}

// wrongProps are faults in properties, which set puts in.
func wrongProps(part string, at int, set func(...api.Prop) func(*api.Graph)) []wrong {
	bool2, field, bad := api.Value{Kind: 1, Num: 2}, api.Value{Kind: 2, Text: "a"}, api.Value{}
	return []wrong{
		{part, api.ErrProps, at, set(make([]api.Prop, 17)...)},
		{part, api.ErrProps, at, set(manyProps(17)...)},
		{part, api.ErrName, at, set(prop("", bad))},
		{part, api.ErrName, at, set(prop("1", num(0)), prop("1", bad))},
		{part, api.ErrKind, at, set(prop("b", bad), prop("a", num(0)))},
		{part, api.ErrBool, at, set(prop("a", bool2), prop("b", field), prop("", num(0)))},
		{part, api.ErrField, at, set(prop("a", num(0)), prop("b", field), prop("b", num(0)))},
		{part, api.ErrOrder, at, set(prop("b", num(0)), prop("b", bad))},
		{part, api.ErrOrder, at, set(prop("b", num(0)), prop("a", num(0)), prop(" ", num(0)))},
		{part, api.ErrOrder, at, set(prop("ab", num(0)), prop("a", num(0)))},
		{part, api.ErrOrder, at, set(prop("a", num(0)), prop("B", num(0)))},
		{part, api.ErrName, at, set(prop("b", num(0)), prop("a b", bad))},
		{part, api.ErrName, at, set(append(manyProps(15), prop(strings.Repeat("x", 41), num(0)))...)},
		{part, api.ErrText, at, set(prop("a", text(strings.Repeat("x", 1001))))},
		{part, api.ErrNaN, at, set(prop("a", api.Value{Kind: 3, Num: -1}))},
		{part, api.ErrList, at, set(prop("a", api.Value{Kind: 6, Nums: make([]int64, 41)}))},
	}
}

// wrongNodes are faults in base's nodes.
func wrongNodes() []wrong {
	id := func(n int) func(*api.Graph) { return func(g *api.Graph) { g.Nodes[1].Id = n; tieAll(g) } }
	labels := func(s ...string) func(*api.Graph) { return func(g *api.Graph) { g.Nodes[1].Labels = s } }
	props := func(p ...api.Prop) func(*api.Graph) { return func(g *api.Graph) { g.Nodes[1].Props = p } }
	return slices.Concat([]wrong{
		{"first", api.ErrNodeId, 0, func(g *api.Graph) { g.Nodes[0].Id = -1 }},
		{"node", api.ErrNodeId, 1, id(-1)},
		{"node", api.ErrNodeId, 1, id(math.MinInt)},
		{"node", api.ErrNodeId, 1, id(1024)},
		{"node", api.ErrNodeId, 1, id(math.MaxInt)},
		{"node", api.ErrOrder, 1, id(0)},
		{"labels", api.ErrLabels, 1, labels(make([]string, 9)...)},
		{"labels", api.ErrLabels, 1, labels("A", "B", "C", "D", "E", "F", "G", "H", "I")},
		{"labels", api.ErrName, 1, labels("")},
		{"labels", api.ErrName, 1, labels("A", "2", "A")},
		{"labels", api.ErrName, 1, labels("B", "a b", "A")},
		{"labels", api.ErrOrder, 1, labels("B", "B")},
		{"labels", api.ErrOrder, 1, labels("B", "A", "")},
		{"labels", api.ErrOrder, 1, labels("a", "B")},
		{"labels", api.ErrOrder, 1, labels("a", "_")},
		{"labels", api.ErrOrder, 1, labels("AB", "A")},
		{"labels", api.ErrOrder, 1, labels("A", "B", "C", "D", "E", "F", "H", "G")},
	}, wrongProps("props", 1, props), []wrong{
		{"third", api.ErrNodeId, 2, func(g *api.Graph) { g.Nodes[2].Id = 1024; tieAll(g) }},
		{"last", api.ErrOrder, 3, func(g *api.Graph) { g.Nodes[3].Id = 7; tieAll(g) }},
	})
}

// wrongRels are faults in base's relationships.
func wrongRels() []wrong {
	relId := func(n int) func(*api.Graph) { return func(g *api.Graph) { g.Rels[1].Id = n } }
	props := func(p ...api.Prop) func(*api.Graph) { return func(g *api.Graph) { g.Rels[1].Props = p } }
	return slices.Concat([]wrong{
		{"relation 0", api.ErrEnd, 4, func(g *api.Graph) { g.Rels[0].To = 1 }},
		{"relation", api.ErrRelId, 5, relId(-1)},
		{"relation", api.ErrRelId, 5, relId(math.MinInt)},
		{"relation", api.ErrRelId, 5, relId(2048)},
		{"relation", api.ErrRelId, 5, relId(math.MaxInt)},
		{"relation", api.ErrOrder, 5, relId(1)},
		{"relation", api.ErrOrder, 5, relId(0)},
		{"type", api.ErrName, 5, func(g *api.Graph) { g.Rels[1].Type = "" }},
		{"type", api.ErrName, 5, func(g *api.Graph) { g.Rels[1].Type = "T T" }},
		{"type", api.ErrName, 5, func(g *api.Graph) { g.Rels[1].Type = strings.Repeat("T", 41) }},
		{"ends", api.ErrEnd, 5, func(g *api.Graph) { g.Rels[1].From = 4 }},
		{"ends", api.ErrEnd, 5, func(g *api.Graph) { g.Rels[1].To = -1 }},
		{"ends", api.ErrEnd, 5, func(g *api.Graph) { g.Rels[1].To = 1024 }},
		{"ends", api.ErrEnd, 5, func(g *api.Graph) { g.Rels[1].From, g.Rels[1].To = math.MaxInt, math.MinInt }},
	}, wrongProps("relation's props", 5, props), []wrong{
		{"relation 2", api.ErrOrder, 6, func(g *api.Graph) { g.Rels[2].Id = 2 }},
		{"relation 3", api.ErrRelId, 7, func(g *api.Graph) { g.Rels[3].Id = 2048 }},
	})
}

// wrongs are faults in the order in which the document examines for them, but for
// those of one part.
func wrongs() []wrong {
	return append(wrongNodes(), wrongRels()...)
}

// tieAll makes relationships end at nodes that are there, as an id may have changed.
func tieAll(g *api.Graph) {
	for i, r := range g.Rels {
		if r.From == 3 {
			g.Rels[i].From = 0
		}
		if r.To == 3 {
			g.Rels[i].To = 0
		}
	}
}

// overfull is base with too many types and too much weight, which change none of its places.
func overfull() api.Graph {
	g := base()
	for c := 'A'; c < 'P'; c++ {
		g.Nodes[2].Props = append(g.Nodes[2].Props, prop(string(c), heavy(20000)))
	}
	g.Rels[3].Id = 100
	for i := range 201 {
		g.Rels = append(g.Rels, api.Rel{Id: 101 + i, Type: "t" + strconv.Itoa(i)})
	}
	return g
}

// heavyNodes gives nodes with values of this weight in all, and so many keys that nodes share.
func heavyNodes(id, weight, keys int) []api.Node {
	var all []api.Node
	for ; weight > 0; id++ {
		n := api.Node{Id: id}
		for k := 0; k < keys && weight > 0; k++ {
			size := min(weight, 9000)
			if size < weight && weight-size < 20 {
				size -= 20
			}
			n.Props = append(n.Props, prop("k"+string(rune('A'+k)), heavy(size)))
			weight -= size
		}
		all = append(all, n)
	}
	return all
}

// heavy gives a value that is encoded in size bytes.
func heavy(size int) api.Value {
	if size <= 1003 {
		return text(strings.Repeat("x", size-3))
	}
	v := api.Value{Kind: api.KindTexts}
	for rest := size - 2; rest > 0; {
		n := min(rest, 1002)
		if n < rest && rest-n < 2 {
			n -= 2
		}
		v.Texts = append(v.Texts, strings.Repeat("x", n-2))
		rest -= n
	}
	return v
}

func TestCheckOfOneFault(t *testing.T) {
	wantCheck(t, "overfull", overfull(), api.ErrTokens, 0)
	for i, w := range wrongs() {
		for _, g := range []api.Graph{base(), overfull()} {
			w.turn(&g)
			wantCheck(t, "fault "+strconv.Itoa(i), g, w.e, w.at)
		}
	}
}

// TestCheckOfTwoFaults holds that the fault which is examined for first is told, whatever follows.
func TestCheckOfTwoFaults(t *testing.T) {
	all := wrongs()
	for i, first := range all {
		for _, second := range all[i+1:] {
			if first.part == second.part {
				continue
			}
			for _, turn := range [][2]wrong{{first, second}, {second, first}} {
				g := base()
				turn[0].turn(&g)
				turn[1].turn(&g)
				wantCheck(t, first.part+" "+strconv.Itoa(int(first.e))+" and "+second.part+" "+strconv.Itoa(int(second.e)), g, first.e, first.at)
			}
		}
	}
}

func TestCheckAtTheLimits(t *testing.T) {
	g := api.Graph{}
	for i := range 1024 {
		g.Nodes = append(g.Nodes, api.Node{Id: i})
	}
	for i := range 2048 {
		g.Rels = append(g.Rels, api.Rel{Id: i, Type: "T", From: i % 1024, To: 1023 - i%1024})
	}
	for c := 'A'; c < 'I'; c++ {
		g.Nodes[1023].Labels = append(g.Nodes[1023].Labels, strings.Repeat(string(c), 40))
	}
	for c := 'a'; c < 'q'; c++ {
		g.Nodes[1023].Props = append(g.Nodes[1023].Props, prop(strings.Repeat(string(c), 40), num(math.MinInt64)))
		g.Rels[2047].Props = append(g.Rels[2047].Props, prop(string(c), text(strings.Repeat("x", 1000))))
	}
	wantCheck(t, "greatest", g, api.OK, 0)
	more := g
	more.Nodes = append(slices.Clone(g.Nodes), api.Node{Id: 1024})
	wantCheck(t, "a node more", more, api.ErrNodeId, 1024)
	more.Nodes[1024].Id = 1023
	wantCheck(t, "a node twice", more, api.ErrOrder, 1024)
	more = g
	more.Rels = append(slices.Clone(g.Rels), api.Rel{Id: 2048, Type: "T"})
	wantCheck(t, "a relationship more", more, api.ErrRelId, 1024+2048)
	more.Rels[2048].Id = 2047
	wantCheck(t, "a relationship twice", more, api.ErrOrder, 1024+2048)
}

func TestCheckOfRelsWithoutNodes(t *testing.T) {
	wantCheck(t, "no nodes", api.Graph{Rels: []api.Rel{{Type: "T"}}}, api.ErrEnd, 0)
	wantCheck(t, "no nodes", api.Graph{Rels: []api.Rel{{Type: "T", From: 1, To: 1}}}, api.ErrEnd, 0)
	wantCheck(t, "one end", api.Graph{Nodes: []api.Node{{Id: 2}}, Rels: []api.Rel{{Type: "T", From: 2, To: 2}, {Id: 1, Type: "T", From: 2}}}, api.ErrEnd, 2)
}

// tokensGraph has so many labels, types and keys, each sort with names of its own, or all sorts with the same ones.
func tokensGraph(labels, types, nodeKeys, relKeys int, same bool) api.Graph {
	name := func(sort string, i int) string {
		if same {
			sort = "n"
		}
		return sort + string(rune('0'+i/100)) + string(rune('0'+i/10%10)) + string(rune('0'+i%10))
	}
	g := api.Graph{}
	for i := range 30 {
		g.Nodes = append(g.Nodes, api.Node{Id: i})
	}
	for i := range 300 {
		g.Rels = append(g.Rels, api.Rel{Id: i, Type: name("t", min(i, types-1))})
	}
	for i := range labels {
		g.Nodes[i/8].Labels = append(g.Nodes[i/8].Labels, name("l", i))
	}
	for i := range nodeKeys {
		g.Nodes[i/16].Props = append(g.Nodes[i/16].Props, prop(name("k", i), num(0)))
	}
	// The keys of relationships begin from the greatest ones of nodes on, downwards.
	for i := range relKeys {
		g.Rels[i].Props = []api.Prop{prop(name("k", max(nodeKeys, relKeys)-1-i), num(0))}
	}
	return g
}

func TestCheckOfTokens(t *testing.T) {
	for _, c := range []struct {
		labels, types, nodeKeys, relKeys int
		e                                api.Errno
	}{
		{200, 200, 200, 0, api.OK},
		{200, 200, 200, 200, api.OK},
		{200, 200, 0, 200, api.OK},
		{201, 1, 0, 0, api.ErrTokens},
		{0, 201, 0, 0, api.ErrTokens},
		{0, 1, 201, 0, api.ErrTokens},
		{0, 1, 0, 201, api.ErrTokens},
		{0, 1, 200, 201, api.ErrTokens},
		{0, 1, 201, 200, api.ErrTokens},
		{240, 300, 300, 300, api.ErrTokens},
	} {
		for _, same := range []bool{false, true} {
			wantCheck(t, "tokens", tokensGraph(c.labels, c.types, c.nodeKeys, c.relKeys, same), c.e, 0)
		}
	}
	// Keys of nodes and relationships that are different count together.
	g := tokensGraph(0, 1, 120, 0, false)
	for i := range 81 {
		wantCheck(t, "keys together", g, api.OK, 0)
		g.Rels[i].Props = []api.Prop{prop("r"+strconv.Itoa(i), num(0))}
	}
	wantCheck(t, "keys together", g, api.ErrTokens, 0)
	// Of the whole graph's faults, that of the names comes first.
	g.Nodes = append(g.Nodes, heavyNodes(100, 262145, 10)...)
	wantCheck(t, "tokens and weight", g, api.ErrTokens, 0)
	// The heavy nodes have ten keys more: they are too many till eleven others are gone.
	for i := range 11 {
		wantCheck(t, "tokens and weight", g, api.ErrTokens, 0)
		g.Rels[80-i].Props = nil
	}
	wantCheck(t, "weight", g, api.ErrWeight, 0)
	g.Rels[300-1].To = 99
	wantCheck(t, "an end and weight", g, api.ErrEnd, len(g.Nodes)+299)
}

func TestCheckOfWeight(t *testing.T) {
	for _, weight := range []int{262143, 262144, 262145, 262146, 300000, 524288, 600000} {
		e := api.OK
		if weight > 262144 {
			e = api.ErrWeight
		}
		for _, keys := range []int{1, 3, 16} {
			g := api.Graph{Nodes: heavyNodes(0, weight, keys)}
			if w := graph.Weight(g); w != weight {
				t.Fatalf("the graph weighs %d, not %d", w, weight)
			}
			wantCheck(t, "nodes of "+strconv.Itoa(weight), g, e, 0)
			for i, n := range g.Nodes[1:] {
				g.Rels = append(g.Rels, api.Rel{Id: i, Type: "T", Props: n.Props})
				g.Nodes[i+1].Props = nil
			}
			wantCheck(t, "relationships of "+strconv.Itoa(weight), g, e, 0)
		}
	}
}

// P6.3

// inserted sorts as one sorts cards, so that equal elements stay in their order.
func inserted[T any](list []T, after func(a, b T) bool) []T {
	var sorted []T
	for _, x := range list {
		at := len(sorted)
		for at > 0 && after(sorted[at-1], x) {
			at--
		}
		sorted = slices.Insert(sorted, at, x)
	}
	return sorted
}

// isAfter compares two names byte by byte.
func isAfter(a, b string) bool {
	for i := range min(len(a), len(b)) {
		if a[i] != b[i] {
			return a[i] > b[i]
		}
	}
	return len(a) > len(b)
}

func canonModel(g api.Graph) api.Graph {
	c := roomyGraph(g)
	byKey := func(a, b api.Prop) bool { return isAfter(a.Key, b.Key) }
	for i, n := range c.Nodes {
		c.Nodes[i].Labels = inserted(n.Labels, isAfter)
		c.Nodes[i].Props = inserted(n.Props, byKey)
	}
	for i, r := range c.Rels {
		c.Rels[i].Props = inserted(r.Props, byKey)
	}
	c.Nodes = inserted(c.Nodes, func(a, b api.Node) bool { return a.Id > b.Id })
	c.Rels = inserted(c.Rels, func(a, b api.Rel) bool { return a.Id > b.Id })
	return c
}

// plain gives a graph without empty lists that aren't nil, for reflect.DeepEqual.
func plain(g api.Graph) api.Graph {
	props := func(list []api.Prop) (all []api.Prop) {
		for _, p := range list {
			p.Val.Nums = append([]int64(nil), p.Val.Nums...)
			p.Val.Texts = append([]string(nil), p.Val.Texts...)
			all = append(all, p)
		}
		return all
	}
	var c api.Graph
	for _, n := range g.Nodes {
		c.Nodes = append(c.Nodes, api.Node{Id: n.Id, Labels: append([]string(nil), n.Labels...), Props: props(n.Props)})
	}
	for _, r := range g.Rels {
		r.Props = props(r.Props)
		c.Rels = append(c.Rels, r)
	}
	return c
}

func wantGraph(t *testing.T, what string, got, want api.Graph) {
	t.Helper()
	if !reflect.DeepEqual(plain(got), plain(want)) {
		t.Errorf("%s: %v, want %v", what, got, want)
	}
}

// shuffled gives a graph with its lists in other orders, always the same ones for a seed.
func shuffled(g api.Graph, seed uint32) api.Graph {
	g = roomyGraph(g)
	next := func(n int) int {
		seed = seed*1664525 + 1013904223
		return int(seed>>8) % n
	}
	mix := func(n int, swap func(i, j int)) {
		for i := n - 1; i > 0; i-- {
			swap(i, next(i+1))
		}
	}
	props := func(p []api.Prop) { mix(len(p), func(i, j int) { p[i], p[j] = p[j], p[i] }) }
	for _, n := range g.Nodes {
		mix(len(n.Labels), func(i, j int) { n.Labels[i], n.Labels[j] = n.Labels[j], n.Labels[i] })
		props(n.Props)
	}
	for _, r := range g.Rels {
		props(r.Props)
	}
	mix(len(g.Nodes), func(i, j int) { g.Nodes[i], g.Nodes[j] = g.Nodes[j], g.Nodes[i] })
	mix(len(g.Rels), func(i, j int) { g.Rels[i], g.Rels[j] = g.Rels[j], g.Rels[i] })
	return g
}

func TestCanonOfValidGraphs(t *testing.T) {
	for seed := range uint32(200) {
		wantGraph(t, "Canon", graph.Canon(shuffled(base(), seed)), base())
	}
	wantGraph(t, "Canon of nothing", graph.Canon(api.Graph{}), api.Graph{})
}

// crowd has many nodes and relationships of few ids, which only their labels and types tell apart.
func crowd() api.Graph {
	var g api.Graph
	for i := range 200 {
		g.Nodes = append(g.Nodes, api.Node{Id: i * 7 % 5, Labels: []string{strconv.Itoa(i)}})
		g.Rels = append(g.Rels, api.Rel{Id: i * 11 % 3, Type: strconv.Itoa(i)})
		g.Nodes[0].Props = append(g.Nodes[0].Props, prop(string(rune('a'+i*3%4)), num(int64(i))))
		g.Rels[0].Props = append(g.Rels[0].Props, prop(string(rune('a'+i*5%6)), num(int64(i))))
	}
	return g
}

func TestCanonOfOtherGraphs(t *testing.T) {
	for _, g := range append(graphs(), crowd()) {
		for seed := range uint32(60) {
			h := shuffled(g, seed)
			wantGraph(t, "Canon", graph.Canon(h), canonModel(h))
		}
		c := graph.Canon(g)
		wantGraph(t, "Canon", c, canonModel(g))
		wantGraph(t, "Canon of Canon", graph.Canon(c), c)
	}
}

func TestCanonIsNewMemory(t *testing.T) {
	for _, g := range graphs() {
		want := canonModel(g)
		arg := roomyGraph(g)
		before := roomyGraph(g)
		first, second := graph.Canon(arg), graph.Canon(arg)
		wantGraph(t, "the argument with its room", wholly(arg), wholly(before))
		spoil(arg)
		spoilLists(arg)
		wantGraph(t, "the result when the argument was overwritten", first, want)
		spoil(first)
		spoilLists(first)
		wantGraph(t, "the result when another was overwritten", second, want)
	}
}

// TestCanonsListsAreApart overwrites one list of a result after the other: the rest stays.
func TestCanonsListsAreApart(t *testing.T) {
	g := canonModel(messy())
	for i := range g.Nodes {
		c := graph.Canon(messy())
		spoil(api.Graph{Nodes: c.Nodes[i : i+1 : i+1]})
		c.Nodes[i] = g.Nodes[i]
		wantGraph(t, "the other lists", c, g)
	}
	for i := range g.Rels {
		c := graph.Canon(messy())
		spoil(api.Graph{Rels: c.Rels[i : i+1 : i+1]})
		c.Rels[i] = g.Rels[i]
		wantGraph(t, "the other lists", c, g)
	}
}

// P6.4

// changes are graphs that differ from base in one thing each.
func changes() []api.Graph {
	var all []api.Graph
	change := func(turn func(*api.Graph)) {
		g := roomyGraph(base())
		turn(&g)
		all = append(all, g)
	}
	change(func(g *api.Graph) { g.Nodes = g.Nodes[:3] })
	change(func(g *api.Graph) { g.Nodes = g.Nodes[1:] })
	change(func(g *api.Graph) { g.Nodes = nil })
	change(func(g *api.Graph) { g.Nodes = append(g.Nodes, api.Node{}) })
	change(func(g *api.Graph) { g.Nodes[0], g.Nodes[1] = g.Nodes[1], g.Nodes[0] })
	change(func(g *api.Graph) { g.Nodes[2].Id = 8 })
	change(func(g *api.Graph) { g.Nodes[0].Labels[0] = "AA" })
	change(func(g *api.Graph) { g.Nodes[0].Labels[2] = "c" })
	change(func(g *api.Graph) { g.Nodes[0].Labels = g.Nodes[0].Labels[:2] })
	change(func(g *api.Graph) { g.Nodes[2].Labels = []string{""} })
	change(func(g *api.Graph) { slices.Reverse(g.Nodes[0].Labels) })
	change(func(g *api.Graph) { g.Nodes[0].Props = g.Nodes[0].Props[:2] })
	change(func(g *api.Graph) { g.Nodes[2].Props = make([]api.Prop, 1) })
	change(func(g *api.Graph) { slices.Reverse(g.Nodes[0].Props) })
	change(func(g *api.Graph) { g.Nodes[0].Props[1].Key = "bb" })
	change(func(g *api.Graph) { g.Nodes[0].Props[1].Val.Kind = 2 })
	change(func(g *api.Graph) { g.Nodes[0].Props[1].Val.Num = 1 })
	change(func(g *api.Graph) { g.Nodes[0].Props[1].Val.Text = "xz" })
	change(func(g *api.Graph) { g.Nodes[0].Props[2].Val.Texts[1] = "x" })
	change(func(g *api.Graph) { g.Nodes[1].Props[0].Val.Nums[2] = 0 })
	change(func(g *api.Graph) { g.Nodes[1].Props[0].Val.Nums = g.Nodes[1].Props[0].Val.Nums[:2] })
	change(func(g *api.Graph) { g.Rels = g.Rels[:3] })
	change(func(g *api.Graph) { g.Rels = g.Rels[1:] })
	change(func(g *api.Graph) { g.Rels = nil })
	change(func(g *api.Graph) { g.Rels = append(g.Rels, api.Rel{}) })
	change(func(g *api.Graph) { slices.Reverse(g.Rels) })
	change(func(g *api.Graph) { g.Rels[1].Id = 3 })
	change(func(g *api.Graph) { g.Rels[1].Type = "R" })
	change(func(g *api.Graph) { g.Rels[1].From = 0 })
	change(func(g *api.Graph) { g.Rels[1].To = 0 })
	change(func(g *api.Graph) { g.Rels[0].From, g.Rels[0].To = g.Rels[0].To, g.Rels[0].From })
	change(func(g *api.Graph) { g.Rels[0].Props = g.Rels[0].Props[:1] })
	change(func(g *api.Graph) { g.Rels[1].Props = make([]api.Prop, 1) })
	change(func(g *api.Graph) { slices.Reverse(g.Rels[0].Props) })
	change(func(g *api.Graph) { g.Rels[0].Props[1].Key = "K" })
	change(func(g *api.Graph) { g.Rels[0].Props[1].Val.Num = 1 })
	change(func(g *api.Graph) { g.Rels[2].Props[0].Val.Nums[0] = math.MinInt64 })
	return all
}

func TestSame(t *testing.T) {
	all := append(changes(), base(), messy(), api.Graph{}, crowd(), graph.Canon(messy()))
	for i, a := range all {
		for j, b := range all {
			if graph.Same(a, roomyGraph(b)) != (i == j) {
				t.Errorf("Same of the graphs %d and %d isn't %v", i, j, i == j)
			}
		}
	}
}

func TestSameOfNilAndEmpty(t *testing.T) {
	for _, g := range graphs() {
		a, b := plain(g), roomyGraph(g)
		if !graph.Same(a, b) || !graph.Same(b, a) || !graph.Same(a, a) || !graph.Same(b, b) {
			t.Errorf("%v: nil isn't the same as empty", g)
		}
	}
}

// P6.5

func TestWeight(t *testing.T) {
	for _, c := range []struct {
		g    api.Graph
		want int
	}{
		{api.Graph{}, 0},
		{api.Graph{Nodes: []api.Node{{Id: 4, Labels: []string{"A"}}}, Rels: []api.Rel{{Type: "T"}}}, 0},
		{api.Graph{Nodes: []api.Node{{Props: []api.Prop{prop("a", num(1))}}}}, 9},
		{api.Graph{Rels: []api.Rel{{Props: []api.Prop{prop("a", text("xy"))}}}}, 5},
		{api.Graph{Rels: []api.Rel{{Props: []api.Prop{prop("a", text("xy")), prop("a", text("")), prop("", api.Value{Kind: 1})}}}}, 10},
		// What isn't valid weighs nothing.
		{api.Graph{Nodes: []api.Node{{Props: []api.Prop{prop("a", num(1)), prop("b", api.Value{Kind: 1, Num: 2}), prop("c", num(1))}}}}, 18},
		{base(), 9 + 5 + (2 + 3 + 2 + 3) + (2 + 24) + 2 + 9 + 10},
	} {
		if w := graph.Weight(c.g); w != c.want {
			t.Errorf("Weight(%v) = %d, want %d", c.g, w, c.want)
		}
	}
}

func TestWeightIsThatOfAllValues(t *testing.T) {
	for _, g := range append(graphs(), crowd()) {
		want := 0
		for _, n := range g.Nodes {
			for _, p := range n.Props {
				want += value.Weight(p.Val)
			}
		}
		for _, r := range g.Rels {
			for _, p := range r.Props {
				want += value.Weight(p.Val)
			}
		}
		if w := graph.Weight(g); w != want {
			t.Errorf("Weight = %d, want %d", w, want)
		}
	}
}

// nodesAsked are ids of nodes that are there and of such as aren't.
var nodesAsked = []int{0, 1, 3, 4, 5, 7, 8, -1, -2, 1023, 1024, 2000, math.MaxInt, math.MinInt}

// idsModel tells the ids of the relationships that touch a node.
func idsModel(g api.Graph, node int) []int {
	var ids []int
	for _, r := range g.Rels {
		if slices.Contains([]int{r.From, r.To}, node) {
			ids = append(ids, r.Id)
		}
	}
	return ids
}

func TestDegree(t *testing.T) {
	for node, want := range map[int]int{0: 2, 3: 2, 7: 2, 1023: 1, 1: 0, -1: 0, 2047: 0} {
		if d := graph.Degree(base(), node); d != want {
			t.Errorf("Degree(base, %d) = %d, want %d", node, d, want)
		}
	}
	for node, want := range map[int]int{5: 5, -1: 3, 4: 1, math.MaxInt: 1, math.MinInt: 1, 0: 1, 9: 0} {
		if d := graph.Degree(messy(), node); d != want {
			t.Errorf("Degree(messy, %d) = %d, want %d", node, d, want)
		}
	}
	// A loop counts once, and a relationship with the id of another counts for itself.
	g := api.Graph{Rels: []api.Rel{{From: 2, To: 2}, {From: 2, To: 3}, {From: 2, To: 2}, {From: 3, To: 2}, {From: 3, To: 4}}}
	if graph.Degree(g, 2) != 4 || graph.Degree(g, 3) != 3 || graph.Degree(g, 4) != 1 || graph.Degree(g, 0) != 0 {
		t.Errorf("degrees with loops: %d, %d, %d, %d", graph.Degree(g, 2), graph.Degree(g, 3), graph.Degree(g, 4), graph.Degree(g, 0))
	}
	for _, g := range append(graphs(), crowd()) {
		for _, node := range nodesAsked {
			if d := graph.Degree(g, node); d != len(idsModel(g, node)) {
				t.Errorf("Degree(%d) = %d, want %d", node, d, len(idsModel(g, node)))
			}
		}
	}
}

// P6.6

func wantNames(t *testing.T, g api.Graph, sort int, want ...string) {
	t.Helper()
	if n := graph.Names(g, sort); !slices.Equal(n, want) {
		t.Errorf("Names(%d) = %q, want %q", sort, n, want)
	}
}

func TestNames(t *testing.T) {
	wantNames(t, base(), 1, "A", "B", "C", "D")
	wantNames(t, base(), 2, "S", "T", "U")
	wantNames(t, base(), 3, "a", "b", "c", "k", "z")
	wantNames(t, messy(), 1, "", "9", "B", "_", "a", "a b", "aa", "b", "first", "x", "y", "é")
	wantNames(t, messy(), 2, "", "T", "a b", "s", "t")
	wantNames(t, messy(), 3, "", "K", "a", "k", "kk", "q", "z", "é")
	// Only nodes have labels, and both have keys.
	wantNames(t, api.Graph{Nodes: base().Nodes}, 3, "a", "b", "c")
	wantNames(t, api.Graph{Rels: base().Rels}, 3, "a", "k", "z")
	wantNames(t, api.Graph{Rels: base().Rels}, 1)
	wantNames(t, api.Graph{Nodes: base().Nodes}, 2)
	for _, g := range graphs() {
		for _, sort := range []int{0, 4, 5, -1, -2, -3, 257, math.MaxInt, math.MinInt} {
			wantNames(t, g, sort)
		}
	}
	for sort := range 5 {
		wantNames(t, api.Graph{}, sort)
	}
}

func TestNamesOfManyAreInOrder(t *testing.T) {
	g := tokensGraph(240, 300, 300, 250, false)
	for seed := range uint32(20) {
		h := shuffled(g, seed)
		for sort, count := range []int{0, 240, 300, 300} {
			n := graph.Names(h, sort)
			if len(n) != count || !slices.IsSorted(n) || len(slices.Compact(n)) != count {
				t.Errorf("Names(%d): %d names, want %d in order", sort, len(n), count)
			}
		}
	}
}

func TestNamesAreNewMemory(t *testing.T) {
	for sort := 1; sort <= 3; sort++ {
		arg := roomyGraph(messy())
		want := graph.Names(messy(), sort)
		first, second := graph.Names(arg, sort), graph.Names(arg, sort)
		for i := range first[:cap(first)] {
			first[:cap(first)][i] = "spoilt"
		}
		wantGraph(t, "the argument", wholly(arg), wholly(roomyGraph(messy())))
		spoil(arg)
		spoilLists(arg)
		if !slices.Equal(second, want) {
			t.Errorf("Names(%d): results share memory", sort)
		}
	}
}

// P6.7

func TestIncident(t *testing.T) {
	for _, g := range append(graphs(), crowd()) {
		for _, node := range nodesAsked {
			got := slices.Collect(graph.Incident(g, node))
			if !slices.Equal(got, idsModel(g, node)) || len(got) != graph.Degree(g, node) {
				t.Errorf("Incident(%d) = %v, want %v", node, got, idsModel(g, node))
			}
		}
	}
	for node, want := range map[int][]int{5: {9, 3, 9, 4000, 3}, -1: {3, -9, 3}, 4: {9}, 77: nil} {
		if got := slices.Collect(graph.Incident(messy(), node)); !slices.Equal(got, want) {
			t.Errorf("Incident(messy, %d) = %v, want %v", node, got, want)
		}
	}
}

func TestIncidentStopsAndIsUsedAgain(t *testing.T) {
	want := []int{9, 3, 9, 4000, 3}
	ids := graph.Incident(messy(), 5)
	for n := range len(want) + 1 {
		var got []int
		for id := range ids {
			if len(got) == n {
				break
			}
			got = append(got, id)
		}
		if !slices.Equal(got, want[:n]) {
			t.Errorf("the first %d ids are %v, want %v", n, got, want[:n])
		}
	}
	// One run within another.
	var pairs []int
	for a := range ids {
		for b := range ids {
			pairs = append(pairs, a*10000+b)
		}
	}
	if len(pairs) != 25 || pairs[7] != 30009 || pairs[24] != 30003 {
		t.Errorf("pairs of ids: %v", pairs)
	}
}

func TestIncidentIsOfTheCall(t *testing.T) {
	g := roomyGraph(messy())
	ids, none := graph.Incident(g, 5), graph.Incident(g, -77)
	spoilLists(g)
	g.Rels = append(g.Rels[:0], api.Rel{Id: 1, From: 5})
	for range 2 {
		if got := slices.Collect(ids); !slices.Equal(got, []int{9, 3, 9, 4000, 3}) {
			t.Errorf("ids of an earlier graph: %v", got)
		}
		if got := slices.Collect(none); len(got) > 0 {
			t.Errorf("ids of a node without any: %v", got)
		}
	}
}

// P1 and P2

func TestArgumentsStay(t *testing.T) {
	for _, g := range append(graphs(), crowd()) {
		arg, before := roomyGraph(g), wholly(roomyGraph(g))
		e, at := graph.Check(arg)
		if f, place := graph.Check(arg); f != e || place != at {
			t.Errorf("Check = %v, %d, then %v, %d", e, at, f, place)
		}
		graph.Same(arg, arg)
		graph.Weight(arg)
		graph.Degree(arg, 5)
		for sort := range 5 {
			first, second := graph.Names(arg, sort), graph.Names(arg, sort)
			if !slices.Equal(first, second) {
				t.Errorf("Names(%d) = %q, then %q", sort, first, second)
			}
		}
		for range graph.Incident(arg, 5) {
		}
		wantGraph(t, "the argument with its room", wholly(arg), before)
	}
}
