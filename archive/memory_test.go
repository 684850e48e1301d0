package archive_test

import (
	"bytes"
	"reflect"
	"slices"
	"strconv"
	"testing"

	"satchel/api"
	"satchel/archive"
	"satchel/graph"
)

// area is the memory of a slice, with its spare capacity.
type area struct {
	from, to uintptr
	what     string
}

// areas finds all slices in a value.
func areas(v reflect.Value, what string) []area {
	var found []area
	switch v.Kind() {
	case reflect.Slice:
		if size := uintptr(v.Cap()) * v.Type().Elem().Size(); size > 0 {
			found = append(found, area{v.Pointer(), v.Pointer() + size, what})
		}
		for i := range v.Len() {
			found = append(found, areas(v.Index(i), what+"["+strconv.Itoa(i)+"]")...)
		}
	case reflect.Struct:
		for i := range v.NumField() {
			found = append(found, areas(v.Field(i), what+"."+v.Type().Field(i).Name)...)
		}
	}
	return found
}

// wantApart finds memory that two slices of the values share.
func wantApart(t *testing.T, values ...any) {
	t.Helper()
	var all []area
	for i, v := range values {
		all = append(all, areas(reflect.ValueOf(v), "value "+strconv.Itoa(i))...)
	}
	slices.SortFunc(all, func(a, b area) int {
		if a.from < b.from {
			return -1
		}
		return 1
	})
	for i := 1; i < len(all); i++ {
		if all[i-1].to > all[i].from {
			t.Errorf("%s and %s share memory", all[i-1].what, all[i].what)
		}
	}
}

// smudge overwrites everything in a value's slices, up to their capacities.
func smudge(v reflect.Value) {
	switch v.Kind() {
	case reflect.Slice:
		v = v.Slice(0, v.Cap())
		for i := range v.Len() {
			smudge(v.Index(i))
		}
	case reflect.Struct:
		for i := range v.NumField() {
			smudge(v.Field(i))
		}
	case reflect.String:
		v.SetString("odd")
	case reflect.Uint8:
		v.SetUint(v.Uint() ^ 0xff)
	default:
		v.SetInt(77)
	}
}

func overwrite[T any](list []T) {
	smudge(reflect.ValueOf(list))
}

func overwriteGraph(g api.Graph) {
	overwrite(g.Nodes)
	overwrite(g.Rels)
}

// roomy gives a copy of a list with spare capacity.
func roomy[T any](list []T, with T) []T {
	r := append(slices.Clone(list), with, with, with)
	return r[:len(list)]
}

// roomyGraph is a graph with several of everything, whose lists have spare capacity.
func roomyGraph() api.Graph {
	props := func() []api.Prop {
		nums := roomy([]int64{3, 1, 2}, 77)
		texts := roomy([]string{"b", "", "a"}, "odd")
		return roomy([]api.Prop{prop("a", api.Value{Kind: api.KindInts, Nums: nums}), prop("b", api.Value{Kind: api.KindTexts, Texts: texts}), prop("c", text("x"))}, prop("odd", number(77)))
	}
	labels := func() []string { return roomy([]string{"A", "B"}, "odd") }
	return api.Graph{
		Nodes: roomy([]api.Node{{Id: 1, Labels: labels(), Props: props()}, {Id: 3, Labels: labels(), Props: props()}}, api.Node{Id: 77}),
		Rels:  roomy([]api.Rel{{Id: 0, Type: "T", From: 1, To: 3, Props: props()}, {Id: 2, Type: "T", From: 3, To: 3, Props: props()}}, api.Rel{Id: 77}),
	}
}

// whole gives all that stands in a value's slices, up to their capacities.
func whole(v reflect.Value) []any {
	var all []any
	switch v.Kind() {
	case reflect.Slice:
		v = v.Slice(0, v.Cap())
		for i := range v.Len() {
			all = append(all, whole(v.Index(i))...)
		}
	case reflect.Struct:
		for i := range v.NumField() {
			all = append(all, whole(v.Field(i))...)
		}
	default:
		all = append(all, v.Interface())
	}
	return all
}

// P20.5, P20.1
func TestWriteMemory(t *testing.T) {
	g := roomyGraph()
	before := whole(reflect.ValueOf(g))
	first, _ := archive.Write(g)
	second, e := archive.Write(g)
	if !reflect.DeepEqual(whole(reflect.ValueOf(g)), before) {
		t.Error("Write has changed the graph")
	}
	wantApart(t, g, first, second)
	want := written(g)
	overwriteGraph(g)
	overwrite(first)
	if e != api.OK || !bytes.Equal(second, want) {
		t.Error("a result has changed with the graph, or with another")
	}
}

// P20.2, P20.5: the iterator is of the graph as it was. Its pieces may be overwritten, and it may be used within itself.
func TestStreamMemory(t *testing.T) {
	g := roomyGraph()
	want := write(g)
	before := whole(reflect.ValueOf(g))
	stream := archive.Stream(g)
	all := slices.Collect(stream)
	if !reflect.DeepEqual(whole(reflect.ValueOf(g)), before) {
		t.Error("Stream has changed the graph")
	}
	wantApart(t, g, all, slices.Collect(stream))
	overwriteGraph(g)
	i := 0
	for piece := range stream {
		if !bytes.Equal(piece, want[i]) {
			t.Errorf("piece %d is % d, want % d", i, piece, want[i])
		}
		overwrite(piece)
		k := 0
		for piece := range stream {
			if !bytes.Equal(piece, want[k]) {
				t.Errorf("piece %d within piece %d is % d, want % d", k, i, piece, want[k])
			}
			overwrite(piece)
			k++
		}
		i++
	}
	if i != len(want) || !slices.EqualFunc(all, want, bytes.Equal) {
		t.Errorf("%d pieces, and before % d", i, all)
	}
}

// P20.3, P20.5
func TestReadMemory(t *testing.T) {
	want := roomyGraph()
	b := roomy(written(want), 77)
	before := whole(reflect.ValueOf(b))
	first, e := archive.Read(b)
	second, _ := archive.Read(b)
	if !reflect.DeepEqual(whole(reflect.ValueOf(b)), before) {
		t.Error("Read has changed the archive")
	}
	wantApart(t, b, first, second)
	overwrite(b)
	overwriteGraph(first)
	if e != api.OK || !graph.Same(second, want) {
		t.Error("a result has changed with the archive, or with another")
	}
}

// P20.4, P20.5: what is fed may be overwritten, and so may what Graph gave.
func TestReaderMemory(t *testing.T) {
	want := roomyGraph()
	b := written(want)
	for _, size := range []int{1, 5, 8, 30, len(b)} {
		r := archive.NewReader()
		for chunk := range slices.Chunk(b, size) {
			c := roomy(chunk, 77)
			before := whole(reflect.ValueOf(c))
			r.Feed(c)
			if !reflect.DeepEqual(whole(reflect.ValueOf(c)), before) {
				t.Error("Feed has changed the chunk")
			}
			overwrite(c)
		}
		first, _ := r.Graph()
		second, e := r.Graph()
		wantApart(t, first, second)
		overwriteGraph(first)
		if third, f := r.Graph(); e != api.OK || f != api.OK || !graph.Same(second, want) || !graph.Same(third, want) {
			t.Errorf("chunks of %d bytes: a result has changed with another", size)
		}
	}
}

// P20.4
func TestReadersAreIndependent(t *testing.T) {
	b := written(sample())
	x, y, z := archive.NewReader(), archive.NewReader(), archive.NewReader()
	for _, c := range single(b) {
		x.Feed(c)
		y.Feed([]byte("Z"))
		if e := z.Feed(c); e != api.OK {
			t.Fatalf("Feed: %v", e)
		}
	}
	for _, r := range []*archive.Reader{x, z} {
		if g, e := r.Graph(); e != api.OK || !graph.Same(g, sample()) {
			t.Errorf("Graph = %+v, %v", g, e)
		}
	}
	if _, e := y.Graph(); e != api.ErrMagic {
		t.Errorf("Graph: %v", e)
	}
	if _, e := archive.NewReader().Graph(); e != api.ErrShort {
		t.Errorf("Graph of a new Reader: %v", e)
	}
}

// P1: an archive that comes byte by byte, and one of very many frames, take no more steps than there are bytes.
func TestMuchAtOnceAndBitByBit(t *testing.T) {
	b := written(heavy(api.MaxWeight))
	r := archive.NewReader()
	for _, c := range single(b) {
		if e := r.Feed(c); e != api.OK {
			t.Fatalf("Feed: %v", e)
		}
	}
	if g, e := r.Graph(); e != api.OK || !graph.Same(g, heavy(api.MaxWeight)) {
		t.Errorf("Graph: %v", e)
	}
	ahead := append([]byte("SATCHEL1"), part{kind: 1, data: []byte{0, 1}}.bytes()...)
	node := part{kind: 2, data: nodeBytes(api.Node{Id: 5})}.bytes()
	many := append(ahead, bytes.Repeat(node, (api.MaxFile-len(ahead))/len(node))...)
	if _, e := archive.Read(many); e != api.ErrShort {
		t.Errorf("Read: %v", e)
	}
	r = archive.NewReader()
	for chunk := range slices.Chunk(many, 100) {
		r.Feed(chunk)
	}
	if e := r.Feed([]byte{5, 0, 0, 0, 0, 1, 2, 3, 4}); e != api.ErrSum {
		t.Errorf("Feed: %v", e)
	}
}
