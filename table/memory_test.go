package table_test

import (
	"reflect"
	"slices"
	"testing"
	"unsafe"

	"satchel/api"
	"satchel/graph"
	"satchel/table"
)

// area is the memory of a slice, with its spare capacity.
type area struct {
	from, to uintptr
	what     string
}

func areaOf[T any](list []T, what string) area {
	from := uintptr(unsafe.Pointer(unsafe.SliceData(list)))
	var one T
	return area{from, from + uintptr(cap(list))*unsafe.Sizeof(one), what}
}

func areasOfProps(props []api.Prop) []area {
	all := []area{areaOf(props, "properties")}
	for _, p := range props {
		all = append(all, areaOf(p.Val.Nums, "numbers"), areaOf(p.Val.Texts, "texts"))
	}
	return all
}

func areasOfGraph(g api.Graph) []area {
	all := []area{areaOf(g.Nodes, "nodes"), areaOf(g.Rels, "relationships")}
	for _, n := range g.Nodes {
		all = append(append(all, areaOf(n.Labels, "labels")), areasOfProps(n.Props)...)
	}
	for _, r := range g.Rels {
		all = append(all, areasOfProps(r.Props)...)
	}
	return all
}

// wantApart finds memory that two slices of the graphs share.
func wantApart(t *testing.T, graphs ...api.Graph) {
	t.Helper()
	var all []area
	for _, g := range graphs {
		all = append(all, areasOfGraph(g)...)
	}
	all = slices.DeleteFunc(all, func(a area) bool { return a.from == a.to })
	slices.SortFunc(all, func(a, b area) int {
		if a.from < b.from {
			return -1
		}
		return 1
	})
	for i := 1; i < len(all); i++ {
		if all[i-1].to > all[i].from {
			t.Errorf("%s and %s share memory", all[i-1].what, all[i].what)
		}
	}
}

// roomy gives a list with spare capacity, in which something stands.
func roomy[T any](spare T, list ...T) []T {
	return append(list, spare, spare, spare)[:len(list)]
}

// roomyGraph is a graph with several of everything, whose lists have spare capacity.
func roomyGraph() api.Graph {
	odd := prop("odd", number(77))
	props := func() []api.Prop {
		return roomy(odd, prop("a", api.Value{Kind: api.KindInts, Nums: roomy[int64](77, 3, 1, 2)}), prop("b", api.Value{Kind: api.KindTexts, Texts: roomy("odd", "b", "", "a,")}), prop("c", text("x")))
	}
	return api.Graph{
		Nodes: roomy(api.Node{Id: 77}, api.Node{Id: 1, Labels: roomy("odd", "A", "B"), Props: props()}, api.Node{Id: 3, Labels: roomy("odd", "B"), Props: props()}),
		Rels:  roomy(api.Rel{Id: 77}, api.Rel{Id: 0, Type: "T", From: 1, To: 3, Props: props()}, api.Rel{Id: 2, Type: "T", From: 3, To: 3, Props: props()}),
	}
}

func whole[T any](list []T) []T {
	return list[:cap(list)]
}

func wholeProps(props []api.Prop) []api.Prop {
	props = slices.Clone(whole(props))
	for i, p := range props {
		props[i].Val.Nums, props[i].Val.Texts = whole(p.Val.Nums), whole(p.Val.Texts)
	}
	return props
}

// wholeGraph gives a graph with the spare capacity of all lists in use.
func wholeGraph(g api.Graph) api.Graph {
	g.Nodes, g.Rels = slices.Clone(whole(g.Nodes)), slices.Clone(whole(g.Rels))
	for i, n := range g.Nodes {
		g.Nodes[i].Labels, g.Nodes[i].Props = whole(n.Labels), wholeProps(n.Props)
	}
	for i, r := range g.Rels {
		g.Rels[i].Props = wholeProps(r.Props)
	}
	return g
}

// P23.1, P23.3
func TestPrintMemory(t *testing.T) {
	g := roomyGraph()
	a, b, e := table.Print(g)
	c, d, f := table.Print(g)
	if nodes, rels := write(g).texts(); e != api.OK || f != api.OK || a != nodes || b != rels || c != nodes || d != rels {
		t.Errorf("Print = %q, %q, %v, and then %q, %q, %v", a, b, e, c, d, f)
	}
	if !reflect.DeepEqual(wholeGraph(g), wholeGraph(roomyGraph())) {
		t.Error("Print has changed the graph")
	}
}

// P23.2, P23.3
func TestParseMemory(t *testing.T) {
	nodes, rels := newRaw().texts()
	first, _ := table.Parse(nodes, rels)
	second, e := table.Parse(nodes, rels)
	wantApart(t, first, second)
	for _, n := range first.Nodes {
		for i := range whole(n.Labels) {
			whole(n.Labels)[i] = "odd"
		}
		for i := range whole(n.Props) {
			whole(n.Props)[i] = prop("odd", number(77))
		}
	}
	for i := range whole(first.Nodes) {
		whole(first.Nodes)[i] = api.Node{Id: 77}
	}
	for i := range whole(first.Rels) {
		whole(first.Rels)[i] = api.Rel{Id: 77}
	}
	if e != api.OK || !graph.Same(second, sample()) {
		t.Errorf("Parse = %+v, %v", second, e)
	}
}

// P23.2: what is read is independent of what was read before.
func TestParseAgain(t *testing.T) {
	nodes, rels := newRaw().texts()
	for _, wrong := range [][2]string{{nodes, ""}, {nodes, rels + rels}, {"", rels}, {nodes + nodes, rels}} {
		if _, e := table.Parse(wrong[0], wrong[1]); e == api.OK {
			t.Error("Parse takes wrong texts")
		}
		wantGraph(t, nodes, rels, sample())
	}
}
