package cypher_test

import (
	"reflect"
	"slices"
	"strconv"
	"strings"
	"testing"
	"unsafe"

	"satchel/api"
	"satchel/cypher"
	"satchel/graph"
)

// area is the memory of a slice, with its spare capacity, or of a string.
type area struct {
	from, to uintptr
	what     string
}

func areaOfString(s, what string) area {
	from := uintptr(unsafe.Pointer(unsafe.StringData(s)))
	return area{from, from + uintptr(len(s)), what}
}

// areas finds all slices in a value, or all strings.
func areas(v reflect.Value, kind reflect.Kind, what string) []area {
	var found []area
	switch v.Kind() {
	case reflect.String:
		if kind == reflect.String && v.Len() > 0 {
			found = append(found, areaOfString(v.String(), what))
		}
	case reflect.Slice:
		if size := uintptr(v.Cap()) * v.Type().Elem().Size(); kind == reflect.Slice && size > 0 {
			found = append(found, area{v.Pointer(), v.Pointer() + size, what})
		}
		for i := range v.Len() {
			found = append(found, areas(v.Index(i), kind, what+"["+strconv.Itoa(i)+"]")...)
		}
	case reflect.Struct:
		for i := range v.NumField() {
			found = append(found, areas(v.Field(i), kind, what+"."+v.Type().Field(i).Name)...)
		}
	}
	return found
}

// wantApart finds memory that two slices of the values share.
func wantApart(t *testing.T, values ...any) {
	t.Helper()
	var all []area
	for i, v := range values {
		all = append(all, areas(reflect.ValueOf(v), reflect.Slice, "value "+strconv.Itoa(i))...)
	}
	slices.SortFunc(all, func(a, b area) int {
		if a.from < b.from {
			return -1
		}
		return 1
	})
	for i := 1; i < len(all); i++ {
		if all[i-1].to > all[i].from {
			t.Errorf("%s and %s share memory", all[i-1].what, all[i].what)
		}
	}
}

// roomy gives a list with spare capacity, in which something stands.
func roomy[T any](spare T, list ...T) []T {
	return append(list, spare, spare, spare)[:len(list)]
}

// roomyGraph is a graph with several of everything, whose lists have spare capacity.
func roomyGraph() api.Graph {
	odd := prop("odd", integer(77))
	props := func() []api.Prop {
		return roomy(odd, prop("a", api.Value{Kind: api.KindInts, Nums: roomy[int64](77, 3, 1, 2)}), prop("b", api.Value{Kind: api.KindTexts, Texts: roomy("odd", "b", "", "a,")}), prop("c", text("x")))
	}
	return api.Graph{
		Nodes: roomy(api.Node{Id: 77}, api.Node{Id: 1, Labels: roomy("odd", "A", "B"), Props: props()}, api.Node{Id: 3, Labels: roomy("odd", "B"), Props: props()}),
		Rels:  roomy(api.Rel{Id: 77}, api.Rel{Id: 0, Type: "T", From: 1, To: 3, Props: props()}, api.Rel{Id: 2, Type: "T", From: 3, To: 3, Props: props()}),
	}
}

// allOf gives all that stands in a value's slices, up to their capacities.
func allOf(v reflect.Value) []any {
	var all []any
	switch v.Kind() {
	case reflect.Slice:
		v = v.Slice(0, v.Cap())
		for i := range v.Len() {
			all = append(all, allOf(v.Index(i))...)
		}
	case reflect.Struct:
		for i := range v.NumField() {
			all = append(all, allOf(v.Field(i))...)
		}
	default:
		all = append(all, v.Interface())
	}
	return all
}

// P25.2, P25.4
func TestPrintMemory(t *testing.T) {
	g := roomyGraph()
	first, e := cypher.Print(g)
	second, f := cypher.Print(g)
	if want := write(g); e != api.OK || f != api.OK || first != want || second != want {
		t.Errorf("Print = %q, %v, and then %q, %v", first, e, second, f)
	}
	if !reflect.DeepEqual(allOf(reflect.ValueOf(g)), allOf(reflect.ValueOf(roomyGraph()))) {
		t.Error("Print has changed the graph")
	}
}

// P25.1, P25.4
func TestLiteralMemory(t *testing.T) {
	for _, v := range []api.Value{{Kind: api.KindInts, Nums: roomy[int64](77, 3, 1, 2)}, {Kind: api.KindTexts, Texts: roomy("odd", "b", "", "a,")}} {
		before := allOf(reflect.ValueOf(v))
		if s, e := cypher.Literal(v); e != api.OK || s != plain().literal(v) {
			t.Errorf("Literal = %q, %v", s, e)
		}
		if !reflect.DeepEqual(allOf(reflect.ValueOf(v)), before) {
			t.Error("Literal has changed the value")
		}
	}
}

// P25.3, P25.4: two results share no list, and no text of them is a piece of the script.
func TestParseMemory(t *testing.T) {
	g := roomyGraph()
	script := write(g)
	first, _ := cypher.Parse(script)
	second, e := cypher.Parse(script)
	wantApart(t, first, second)
	in := areaOfString(script, "the script")
	for _, a := range areas(reflect.ValueOf(first), reflect.String, "the graph") {
		if a.from < in.to && in.from < a.to {
			t.Errorf("%s is a piece of the script", a.what)
		}
	}
	for _, n := range first.Nodes {
		for i := range n.Labels[:cap(n.Labels)] {
			n.Labels[:cap(n.Labels)][i] = "odd"
		}
		for i := range n.Props[:cap(n.Props)] {
			n.Props[:cap(n.Props)][i] = prop("odd", integer(77))
		}
	}
	for i := range first.Rels[:cap(first.Rels)] {
		first.Rels[:cap(first.Rels)][i] = api.Rel{Id: 77}
	}
	if e != api.OK || !graph.Same(second, g) {
		t.Errorf("Parse = %+v, %v", second, e)
	}
}

// P2, P25.3: what is read is independent of what was read before.
func TestParseAgain(t *testing.T) {
	g := roomyGraph()
	script := write(g)
	for _, wrong := range []string{script + script, script + "CREATE", script + "#", strings.ReplaceAll(script, "n3", "n1024")} {
		if _, e := cypher.Parse(wrong); e == api.OK {
			t.Errorf("Parse takes %q", wrong)
		}
		wantGraph(t, script, g)
	}
}
