package storetwo_test

import (
	"reflect"
	"slices"
	"strconv"
	"testing"

	"satchel/api"
	"satchel/graph"
	"satchel/storetwo"
)

// area is the memory of a slice, with its spare capacity.
type area struct {
	from, to uintptr
	what     string
}

// areas finds all slices in a value.
func areas(v reflect.Value, what string) []area {
	var found []area
	switch v.Kind() {
	case reflect.Slice:
		if size := uintptr(v.Cap()) * v.Type().Elem().Size(); size > 0 {
			found = append(found, area{v.Pointer(), v.Pointer() + size, what})
		}
		for i := range v.Len() {
			found = append(found, areas(v.Index(i), what+"["+strconv.Itoa(i)+"]")...)
		}
	case reflect.Struct:
		for i := range v.NumField() {
			found = append(found, areas(v.Field(i), what+"."+v.Type().Field(i).Name)...)
		}
	}
	return found
}

// wantApart finds memory that two slices of the values share.
func wantApart(t *testing.T, values ...any) {
	t.Helper()
	var all []area
	for i, v := range values {
		all = append(all, areas(reflect.ValueOf(v), "value "+strconv.Itoa(i))...)
	}
	slices.SortFunc(all, func(a, b area) int {
		if a.from < b.from {
			return -1
		}
		return 1
	})
	for i := 1; i < len(all); i++ {
		if all[i-1].to > all[i].from {
			t.Errorf("%s and %s share memory", all[i-1].what, all[i].what)
		}
	}
}

// roomy gives a copy of a list with spare capacity.
func roomy[T any](list []T, with T) []T {
	r := append(slices.Clone(list), with, with, with)
	return r[:len(list)]
}

// roomyGraph is a graph with several of everything, a dense node too, whose lists have spare capacity.
func roomyGraph() api.Graph {
	props := func() []api.Prop {
		nums := roomy([]int64{3, 1, 2}, 77)
		texts := roomy([]string{"b", "", "a"}, "odd")
		return roomy([]api.Prop{prop("a", api.Value{Kind: api.KindInts, Nums: nums}), prop("b", api.Value{Kind: api.KindTexts, Texts: texts}), prop("c", text("x"))}, prop("odd", number(77)))
	}
	labels := func() []string { return roomy([]string{"A", "B"}, "odd") }
	g := api.Graph{
		Nodes: roomy([]api.Node{{Id: 1, Labels: labels(), Props: props()}, {Id: 3, Labels: labels(), Props: props()}}, api.Node{Id: 77}),
		Rels:  roomy([]api.Rel{{Id: 0, Type: "T", From: 1, To: 3, Props: props()}, {Id: 2, Type: "T", From: 3, To: 3, Props: props()}}, api.Rel{Id: 77}),
	}
	for id := 5; id < 55; id++ {
		g.Rels = append(g.Rels, api.Rel{Id: id, Type: "S", From: 3, To: 3})
	}
	return g
}

// whole gives all that stands in a value's slices, up to their capacities.
func whole(v reflect.Value) []any {
	var all []any
	switch v.Kind() {
	case reflect.Slice:
		v = v.Slice(0, v.Cap())
		for i := range v.Len() {
			all = append(all, whole(v.Index(i))...)
		}
	case reflect.Struct:
		for i := range v.NumField() {
			all = append(all, whole(v.Field(i))...)
		}
	default:
		all = append(all, v.Interface())
	}
	return all
}

// P18.6
func TestMemory(t *testing.T) {
	g := roomyGraph()
	before := whole(reflect.ValueOf(g))
	files, again := built(t, g), built(t, g)
	if !reflect.DeepEqual(whole(reflect.ValueOf(g)), before) {
		t.Error("Build has changed the graph")
	}
	if !sameFiles(files, again) {
		t.Error("Build answers differently the second time")
	}
	wantApart(t, g, files, again)

	files = roomy(files, api.File{Name: "odd"})
	for i := range files {
		files[i].Data = roomy(files[i].Data, 77)
	}
	before = whole(reflect.ValueOf(files))
	h, e := storetwo.Denote(files)
	k, _ := storetwo.Denote(files)
	if e != api.OK || storetwo.Validate(files) != api.OK || !graph.Same(h, g) || !graph.Same(k, g) {
		t.Errorf("Denote = %+v, %v, and then %+v", h, e, k)
	}
	if !reflect.DeepEqual(whole(reflect.ValueOf(files)), before) {
		t.Error("Denote or Validate has changed the files")
	}
	wantApart(t, g, files, h, k)

	for i := range files {
		for k := range files[i].Data {
			files[i].Data[k] ^= 0xff
		}
		files[i].Name = "odd"
	}
	if !graph.Same(h, g) || !graph.Same(k, g) {
		t.Error("a graph has changed with the files that it was read from")
	}
}
