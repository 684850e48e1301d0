package storeone_test

import (
	"bytes"
	"math"
	"math/rand"
	"reflect"
	"slices"
	"strconv"
	"strings"
	"testing"

	"satchel/api"
	"satchel/graph"
	"satchel/storeone"
	"satchel/value"
)

func number(n int64) api.Value { return api.Value{Kind: api.KindInt, Num: n} }

func text(s string) api.Value { return api.Value{Kind: api.KindText, Text: s} }

func prop(key string, v api.Value) api.Prop { return api.Prop{Key: key, Val: v} }

func built(t *testing.T, g api.Graph) []api.File {
	t.Helper()
	files, e := storeone.Build(g)
	if e != api.OK {
		t.Fatalf("Build: %v", e)
	}
	return files
}

func sameFiles(a, b []api.File) bool {
	return slices.EqualFunc(a, b, func(x, y api.File) bool { return x.Name == y.Name && bytes.Equal(x.Data, y.Data) })
}

// wantFiles tells the first file that is not as it should be.
func wantFiles(t *testing.T, got, want []api.File) {
	t.Helper()
	if len(got) != len(want) {
		t.Fatalf("%d files, want %d", len(got), len(want))
	}
	for i := range want {
		if got[i].Name != want[i].Name || !bytes.Equal(got[i].Data, want[i].Data) {
			t.Fatalf("file %d is %q of %d bytes, want %q of %d bytes:\n% d\n% d", i, got[i].Name, len(got[i].Data), want[i].Name, len(want[i].Data), clip(got[i].Data), clip(want[i].Data))
		}
	}
}

func clip(b []byte) []byte {
	return b[:min(len(b), 500)]
}

// wantGraph asks for the graph of a valid store.
func wantGraph(t *testing.T, files []api.File, want api.Graph) {
	t.Helper()
	if e := storeone.Validate(files); e != api.OK {
		t.Fatalf("Validate: %v", e)
	}
	if g, e := storeone.Denote(files); e != api.OK || !graph.Same(g, want) {
		t.Fatalf("Denote = %+v, %v, want %+v", g, e, want)
	}
}

func isEmpty(g api.Graph) bool {
	return len(g.Nodes) == 0 && len(g.Rels) == 0
}

// wantError asks for the error of files that are no valid store.
func wantError(t *testing.T, what string, files []api.File, want api.Errno) {
	t.Helper()
	if e := storeone.Validate(files); e != want {
		t.Errorf("%s: Validate: %v, want %v", what, e, want)
	}
	if g, e := storeone.Denote(files); e != want || !isEmpty(g) {
		t.Errorf("%s: Denote = %+v, %v, want %v", what, g, e, want)
	}
}

// wantRead compares with the model, and answers its error.
func wantRead(t *testing.T, files []api.File) api.Errno {
	t.Helper()
	want, wrong := read(files)
	g, e := storeone.Denote(files)
	if e != wrong || !graph.Same(g, want) || storeone.Validate(files) != wrong {
		t.Fatalf("Denote = %+v, %v, want %+v, %v, of %v", g, e, want, wrong, files)
	}
	return e
}

// The document's examples.

// P14.1, P14.2
func TestEmptyGraph(t *testing.T) {
	files := built(t, api.Graph{})
	for i, f := range files {
		if f.Name == "meta" {
			if string(f.Data) != "GSTR\x00\x01" {
				t.Errorf("meta is %q", f.Data)
			}
		} else if len(f.Data) != 16 || string(f.Data[:4]) != "SREC" {
			t.Errorf("file %d is %v", i, f)
		}
	}
	wantFiles(t, files, write(api.Graph{}, nil).files())
	wantGraph(t, files, api.Graph{})
}

func hi() api.Graph {
	return api.Graph{Nodes: []api.Node{{Id: 2, Labels: []string{"A"}, Props: []api.Prop{prop("k", text("hi"))}}}}
}

// P14.1, P14.2
func TestHi(t *testing.T) {
	files := built(t, hi())
	node := append(make([]byte, 34), 1, 0, 0, 0, 0, 0, 0, 0, 1, 1, 0, 0, 0, 0, 0, 0, 0)
	if b := files[4].Data[16:]; !bytes.Equal(b, node) {
		t.Errorf("nodes: %v, want %v", b, node)
	}
	property := []byte{1, 0, 0, 4, 0, 0, 0, 0, 0, 0, 0, 1, 0, 0, 0, 0, 0, 0, 0, 0}
	if b := files[5].Data[16:]; !bytes.Equal(b, property) {
		t.Errorf("props: %v, want %v", b, property)
	}
	block := append([]byte{1, 1, 5, 0, 0, 0, 0, 4, 0, 2, 104, 105}, make([]byte, 20)...)
	if b := files[0].Data[16:]; !bytes.Equal(b, block) {
		t.Errorf("blobs: %v, want %v", b, block)
	}
	wantFiles(t, files, write(hi(), nil).files())
	wantGraph(t, files, hi())
}

// names and values from which the random graphs are made.
var (
	someLabels = []string{"A", "B", "a", "B2", "_", "Z9", "AB", "ABC", "b", "L"}
	someTypes  = []string{"T", "S", "KNOWS", "t"}
	someKeys   = []string{"k", "a", "K", "_k", "k2", "name", "b", "since"}
	someNums   = []int64{0, 1, 258, math.MinInt64, 0x7ff0000000000000, 0x7ff8000000000000, -1, math.MaxInt64}
)

// some gives up to n different ones of a list, in order.
func some(rng *rand.Rand, list []string, n int) []string {
	var chosen []string
	for _, i := range rng.Perm(len(list))[:rng.Intn(min(n, len(list))+1)] {
		chosen = append(chosen, list[i])
	}
	slices.Sort(chosen)
	return chosen
}

func randomNum(rng *rand.Rand, kind int) int64 {
	switch kind {
	case api.KindBool:
		return rng.Int63n(2)
	case api.KindFloat:
		return someNums[rng.Intn(len(someNums)-2)] // not the last, which are other forms of NaNs
	}
	return someNums[rng.Intn(len(someNums))]
}

func randomText(rng *rand.Rand) string {
	lengths := []int{0, 1, 2, 21, 22, 23, 24, 47, 48, 60}
	b := make([]byte, lengths[rng.Intn(len(lengths))])
	rng.Read(b)
	return string(b)
}

func randomValue(rng *rand.Rand) api.Value {
	v := api.Value{Kind: 1 + rng.Intn(8)}
	switch {
	case v.Kind == api.KindText:
		v.Text = randomText(rng)
	case v.Kind == api.KindTexts:
		for range rng.Intn(4) {
			v.Texts = append(v.Texts, randomText(rng))
		}
	case v.Kind > api.ListOf:
		for range rng.Intn(8) {
			v.Nums = append(v.Nums, randomNum(rng, v.Kind-api.ListOf))
		}
	default:
		v.Num = randomNum(rng, v.Kind)
	}
	return v
}

func randomProps(rng *rand.Rand) []api.Prop {
	var props []api.Prop
	for _, key := range some(rng, someKeys, 4) {
		props = append(props, prop(key, randomValue(rng)))
	}
	return props
}

func randomGraph(rng *rand.Rand) api.Graph {
	var g api.Graph
	id := rng.Intn(3)
	for range rng.Intn(6) {
		g.Nodes = append(g.Nodes, api.Node{Id: id, Labels: some(rng, someLabels, 8), Props: randomProps(rng)})
		id += 1 + rng.Intn(2)*rng.Intn(3)
	}
	if len(g.Nodes) == 0 {
		return g
	}
	id = rng.Intn(3)
	for range rng.Intn(9) {
		end := func() int { return g.Nodes[rng.Intn(len(g.Nodes))].Id }
		g.Rels = append(g.Rels, api.Rel{Id: id, Type: someTypes[rng.Intn(4)], From: end(), To: end(), Props: randomProps(rng)})
		id += 1 + rng.Intn(2)*rng.Intn(3)
	}
	return g
}

// bound is P14.4's.
func bound(g api.Graph) int {
	n, r, p, w := 0, 0, 0, 0
	names := len(graph.Names(g, 1)) + len(graph.Names(g, 2)) + len(graph.Names(g, 3))
	props := func(list []api.Prop) {
		for _, x := range list {
			p++
			w += value.Weight(x.Val)
		}
	}
	for _, x := range g.Nodes {
		n = max(n, x.Id+1)
		props(x.Props)
	}
	for _, x := range g.Rels {
		r = max(r, x.Id+1)
		props(x.Props)
	}
	return 1100 + 17*n + 31*r + 52*p + 42*names + 2*w
}

// wantStore asks everything of the store that is built for a graph.
func wantStore(t *testing.T, g api.Graph) {
	t.Helper()
	files := built(t, g)
	wantFiles(t, files, write(g, nil).files())
	wantGraph(t, files, g)
	size := 0
	for _, f := range files {
		size += len(f.Data)
	}
	if most := bound(g); size > most {
		t.Fatalf("the store has %d bytes, more than %d", size, most)
	}
}

// P14.1, P14.2, P14.4: what is built, byte by byte.
func TestStoresOfRandomGraphs(t *testing.T) {
	rng := rand.New(rand.NewSource(1))
	for range 3000 {
		wantStore(t, randomGraph(rng))
	}
}

// P14.1: the same graphs in stores whose names, properties, blocks and chains stand in any order, with gaps.
func TestStoresOfAnyOrder(t *testing.T) {
	rng := rand.New(rand.NewSource(2))
	other := 0
	for range 4000 {
		g := randomGraph(rng)
		files := write(g, rng).files()
		wantGraph(t, files, g)
		if !sameFiles(files, built(t, g)) {
			other++
		}
	}
	if other < 3000 {
		t.Errorf("only %d stores were different from those built", other)
	}
}

// P14.2: a graph that isn't valid.
func TestBuildOfWrongGraphs(t *testing.T) {
	node := func(labels ...string) api.Node { return api.Node{Id: 1, Labels: labels} }
	two := []api.Node{{Id: 0}, {Id: 1}}
	heavy := text(strings.Repeat("x", 1000))
	for i, c := range []struct {
		g    api.Graph
		want api.Errno
	}{
		{api.Graph{Nodes: []api.Node{{Id: -1}}}, api.ErrNodeId},
		{api.Graph{Nodes: []api.Node{{Id: 1024}}}, api.ErrNodeId},
		{api.Graph{Nodes: []api.Node{{Id: 1}, {Id: 0}}}, api.ErrOrder},
		{api.Graph{Nodes: []api.Node{{Id: 1}, {Id: 1}}}, api.ErrOrder},
		{api.Graph{Nodes: []api.Node{node("A", "B", "C", "D", "E", "F", "G", "H", "I")}}, api.ErrLabels},
		{api.Graph{Nodes: []api.Node{node("")}}, api.ErrName},
		{api.Graph{Nodes: []api.Node{node("B", "A")}}, api.ErrOrder},
		{api.Graph{Nodes: []api.Node{node("A", "A")}}, api.ErrOrder},
		{api.Graph{Nodes: []api.Node{{Props: []api.Prop{prop("b", number(1)), prop("a", number(1))}}}}, api.ErrOrder},
		{api.Graph{Nodes: []api.Node{{Props: []api.Prop{prop("b", api.Value{Kind: 1, Num: 2})}}}}, api.ErrBool},
		{api.Graph{Nodes: []api.Node{{Props: []api.Prop{prop("b", api.Value{})}}}}, api.ErrKind},
		{api.Graph{Nodes: two, Rels: []api.Rel{{Id: -1, Type: "T"}}}, api.ErrRelId},
		{api.Graph{Nodes: two, Rels: []api.Rel{{Id: math.MaxInt, Type: "T"}}}, api.ErrRelId},
		{api.Graph{Nodes: two, Rels: []api.Rel{{Id: 3, Type: "T"}, {Id: 3, Type: "T"}}}, api.ErrOrder},
		{api.Graph{Nodes: two, Rels: []api.Rel{{Id: 3, Type: "T"}, {Id: math.MinInt, Type: "T"}}}, api.ErrRelId},
		{api.Graph{Nodes: two, Rels: []api.Rel{{Type: "T", From: 2}}}, api.ErrEnd},
		{api.Graph{Nodes: two, Rels: []api.Rel{{Type: "T", To: -1}}}, api.ErrEnd},
		{api.Graph{Rels: []api.Rel{{Type: "T"}}}, api.ErrEnd},
		{api.Graph{Nodes: two, Rels: []api.Rel{{Type: "é"}}}, api.ErrName},
		{api.Graph{Nodes: two, Rels: []api.Rel{{Type: "T", Props: make([]api.Prop, 17)}}}, api.ErrProps},
		{crowded(201, 3), api.ErrTokens},
		{loaded(263, heavy), api.ErrWeight},
	} {
		files, e := storeone.Build(c.g)
		if e != c.want || len(files) != 0 {
			t.Errorf("%d: Build: %d files, %v, want %v", i, len(files), e, c.want)
		}
	}
}

// crowded is a graph with n names of one sort.
func crowded(n, sort int) api.Graph {
	g := api.Graph{Nodes: []api.Node{{Id: 0}}}
	for i := range n {
		name := "n" + strconv.Itoa(1000+i)
		switch sort {
		case 1:
			g.Nodes = append(g.Nodes, api.Node{Id: i + 1, Labels: []string{name}})
		case 2:
			g.Rels = append(g.Rels, api.Rel{Id: i, Type: name})
		case 3:
			g.Nodes = append(g.Nodes, api.Node{Id: i + 1, Props: []api.Prop{prop(name, number(1))}})
		}
	}
	return g
}

// loaded is a graph with n properties, all with one value, that fill the nodes one after another, and then the relationships.
func loaded(n int, v api.Value) api.Graph {
	keys := make([]api.Prop, 16)
	for i := range keys {
		keys[i] = prop("k"+strconv.Itoa(100+i), v)
	}
	var g api.Graph
	for id := 0; id < 1024 && n > 0; id++ {
		g.Nodes = append(g.Nodes, api.Node{Id: id, Props: slices.Clone(keys[:min(n, 16)])})
		n -= min(n, 16)
	}
	for id := 0; id < 2048 && n > 0; id++ {
		g.Rels = append(g.Rels, api.Rel{Id: id, Type: "T", From: id % 1024, To: (id * 7) % 1024, Props: slices.Clone(keys[:min(n, 16)])})
		n -= min(n, 16)
	}
	return g
}

// P14.2, P14.3, P14.4: graphs at the limits.
func TestLimits(t *testing.T) {
	most := (1024 + 2048) * 16
	t.Run("bools", func(t *testing.T) { wantStore(t, loaded(most, api.Value{Kind: api.KindBool, Num: 1})) })
	t.Run("blobs", func(t *testing.T) {
		// As many blobs as there can be, and of those as many with two blocks as their weight allows.
		g := loaded(most, api.Value{Kind: api.KindTexts})
		left := (api.MaxWeight - 2*most) / 24
		longer := api.Value{Kind: api.KindBools, Nums: make([]int64, 24)}
		for i := range left {
			g.Nodes[i/16].Props[i%16].Val = longer
		}
		wantStore(t, g)
	})
	t.Run("texts", func(t *testing.T) {
		g := loaded(261, text(strings.Repeat("x", 1000)))
		left := api.MaxWeight - graph.Weight(g)
		g.Nodes[16].Props = append(g.Nodes[16].Props, prop("z", text(strings.Repeat("z", left-3))))
		if graph.Weight(g) != api.MaxWeight {
			t.Fatalf("the graph's weight is %d", graph.Weight(g))
		}
		wantStore(t, g)
	})
	t.Run("lists", func(t *testing.T) {
		wantStore(t, loaded(6, api.Value{Kind: api.KindTexts, Texts: slices.Repeat([]string{strings.Repeat("x", 1000)}, 40)}))
	})
	for sort := 1; sort <= 3; sort++ {
		t.Run("names", func(t *testing.T) { wantStore(t, crowded(200, sort)) })
	}
	t.Run("labels", func(t *testing.T) {
		g := crowded(200, 1)
		for i := range g.Nodes {
			for k := range 8 {
				g.Nodes[i].Labels = append(g.Nodes[i].Labels, "n"+strconv.Itoa(1000+(i+k*k*k)%200))
			}
			slices.Sort(g.Nodes[i].Labels)
			g.Nodes[i].Labels = slices.Compact(g.Nodes[i].Labels)
			g.Nodes[i].Labels = g.Nodes[i].Labels[:min(8, len(g.Nodes[i].Labels))]
		}
		wantStore(t, g)
	})
	t.Run("ids", func(t *testing.T) {
		wantStore(t, api.Graph{Nodes: []api.Node{{Id: 1023}}, Rels: []api.Rel{{Id: 2047, Type: "T", From: 1023, To: 1023}}})
	})
	t.Run("degree", func(t *testing.T) {
		g := api.Graph{Nodes: []api.Node{{Id: 0}, {Id: 1023}}}
		for id := range 2048 {
			g.Rels = append(g.Rels, api.Rel{Id: id, Type: "T", From: 1023 * (id % 3 % 2), To: 1023 * (id / 3 % 3 % 2)})
		}
		wantStore(t, g)
	})
}

// P14.1: the limits of the document's steps 5, 8 and 10, from both sides.
func TestLimitsOfStores(t *testing.T) {
	counts := func(file string, n int) []api.File {
		s := write(hi(), nil)
		s.parts[file].grow(n)
		return s.files()
	}
	wantGraph(t, counts("nodes", 1024), hi())
	wantError(t, "1025 nodes", counts("nodes", 1025), api.ErrNodeId)
	wantGraph(t, counts("rels", 2048), hi())
	wantError(t, "2049 relationships", counts("rels", 2049), api.ErrRelId)
	wantGraph(t, counts("props", 65536), hi())
	wantError(t, "65537 properties", counts("props", 65537), api.ErrCount)
	wantGraph(t, counts("blobs", 65536), hi())
	wantGraph(t, counts("labels", 200), hi())
	wantError(t, "201 labels", counts("labels", 201), api.ErrTokens)

	for n := 15; n <= 18; n++ {
		g := api.Graph{Nodes: []api.Node{{Id: 0}}}
		for i := range n {
			g.Nodes[0].Props = append(g.Nodes[0].Props, prop("k"+strconv.Itoa(100+i), number(int64(i))))
		}
		if files := write(g, nil).files(); n <= 16 {
			wantGraph(t, files, g)
		} else {
			wantError(t, strconv.Itoa(n)+" properties", files, api.ErrProps)
		}
	}

	g := loaded(262, text(strings.Repeat("x", 997)))
	for last, want := range map[int]api.Errno{141: api.OK, 142: api.ErrWeight} {
		g.Nodes[0].Labels = nil
		g.Rels = []api.Rel{{Id: 0, Type: "T", Props: []api.Prop{prop("k", text(strings.Repeat("x", last)))}}}
		if want == api.OK {
			wantGraph(t, write(g, nil).files(), g)
		} else {
			wantError(t, "a weight of "+strconv.Itoa(graph.Weight(g)), write(g, nil).files(), want)
		}
	}
}

// area is the memory of a slice, with its spare capacity.
type area struct {
	from, to uintptr
	what     string
}

// areas finds all slices in a value.
func areas(v reflect.Value, what string) []area {
	var found []area
	switch v.Kind() {
	case reflect.Slice:
		if size := uintptr(v.Cap()) * v.Type().Elem().Size(); size > 0 {
			found = append(found, area{v.Pointer(), v.Pointer() + size, what})
		}
		for i := range v.Len() {
			found = append(found, areas(v.Index(i), what+"["+strconv.Itoa(i)+"]")...)
		}
	case reflect.Struct:
		for i := range v.NumField() {
			found = append(found, areas(v.Field(i), what+"."+v.Type().Field(i).Name)...)
		}
	}
	return found
}

// wantApart finds memory that two slices of the values share.
func wantApart(t *testing.T, values ...any) {
	t.Helper()
	var all []area
	for i, v := range values {
		all = append(all, areas(reflect.ValueOf(v), "value "+strconv.Itoa(i))...)
	}
	slices.SortFunc(all, func(a, b area) int {
		if a.from < b.from {
			return -1
		}
		return 1
	})
	for i := 1; i < len(all); i++ {
		if all[i-1].to > all[i].from {
			t.Errorf("%s and %s share memory", all[i-1].what, all[i].what)
		}
	}
}

// roomy gives a copy of a list with spare capacity.
func roomy[T any](list []T, with T) []T {
	r := append(slices.Clone(list), with, with, with)
	return r[:len(list)]
}

// roomyGraph is a graph with several of everything, whose lists have spare capacity.
func roomyGraph() api.Graph {
	props := func() []api.Prop {
		nums := roomy([]int64{3, 1, 2}, 77)
		texts := roomy([]string{"b", "", "a"}, "odd")
		return roomy([]api.Prop{prop("a", api.Value{Kind: api.KindInts, Nums: nums}), prop("b", api.Value{Kind: api.KindTexts, Texts: texts}), prop("c", text("x"))}, prop("odd", number(77)))
	}
	labels := func() []string { return roomy([]string{"A", "B"}, "odd") }
	return api.Graph{
		Nodes: roomy([]api.Node{{Id: 1, Labels: labels(), Props: props()}, {Id: 3, Labels: labels(), Props: props()}}, api.Node{Id: 77}),
		Rels:  roomy([]api.Rel{{Id: 0, Type: "T", From: 1, To: 3, Props: props()}, {Id: 2, Type: "T", From: 3, To: 3, Props: props()}}, api.Rel{Id: 77}),
	}
}

// whole gives all that stands in a value's slices, up to their capacities.
func whole(v reflect.Value) []any {
	var all []any
	switch v.Kind() {
	case reflect.Slice:
		v = v.Slice(0, v.Cap())
		for i := range v.Len() {
			all = append(all, whole(v.Index(i))...)
		}
	case reflect.Struct:
		for i := range v.NumField() {
			all = append(all, whole(v.Field(i))...)
		}
	default:
		all = append(all, v.Interface())
	}
	return all
}

// P14.5
func TestMemory(t *testing.T) {
	g := roomyGraph()
	before := whole(reflect.ValueOf(g))
	files, again := built(t, g), built(t, g)
	if !reflect.DeepEqual(whole(reflect.ValueOf(g)), before) {
		t.Error("Build has changed the graph")
	}
	if !sameFiles(files, again) {
		t.Error("Build answers differently the second time")
	}
	wantApart(t, g, files, again)

	files = roomy(files, api.File{Name: "odd"})
	for i := range files {
		files[i].Data = roomy(files[i].Data, 77)
	}
	before = whole(reflect.ValueOf(files))
	h, e := storeone.Denote(files)
	k, _ := storeone.Denote(files)
	if e != api.OK || storeone.Validate(files) != api.OK || !graph.Same(h, g) || !graph.Same(k, g) {
		t.Errorf("Denote = %+v, %v, and then %+v", h, e, k)
	}
	if !reflect.DeepEqual(whole(reflect.ValueOf(files)), before) {
		t.Error("Denote or Validate has changed the files")
	}
	wantApart(t, g, files, h, k)

	for i := range files {
		for k := range files[i].Data {
			files[i].Data[k] ^= 0xff
		}
		files[i].Name = "odd"
	}
	if !graph.Same(h, g) || !graph.Same(k, g) {
		t.Error("a graph has changed with the files that it was read from")
	}
}
