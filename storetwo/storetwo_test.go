package storetwo_test

import (
	"bytes"
	"math"
	"math/rand"
	"slices"
	"strconv"
	"strings"
	"testing"

	"satchel/api"
	"satchel/graph"
	"satchel/slots"
	"satchel/storetwo"
	"satchel/value"
)

func number(n int64) api.Value { return api.Value{Kind: api.KindInt, Num: n} }

func text(s string) api.Value { return api.Value{Kind: api.KindText, Text: s} }

func texts(n int) api.Value { return text(strings.Repeat("x", n)) }

func yes() api.Value { return api.Value{Kind: api.KindBool, Num: 1} }

func prop(key string, v api.Value) api.Prop { return api.Prop{Key: key, Val: v} }

func built(t *testing.T, g api.Graph) []api.File {
	t.Helper()
	files, e := storetwo.Build(g)
	if e != api.OK {
		t.Fatalf("Build: %v", e)
	}
	return files
}

func sameFiles(a, b []api.File) bool {
	return slices.EqualFunc(a, b, func(x, y api.File) bool { return x.Name == y.Name && bytes.Equal(x.Data, y.Data) })
}

// wantFiles tells the first file that is not as it should be.
func wantFiles(t *testing.T, got, want []api.File) {
	t.Helper()
	if len(got) != len(want) {
		t.Fatalf("%d files, want %d", len(got), len(want))
	}
	for i := range want {
		if got[i].Name != want[i].Name || !bytes.Equal(got[i].Data, want[i].Data) {
			t.Fatalf("file %d is %q of %d bytes, want %q of %d bytes:\n% d\n% d", i, got[i].Name, len(got[i].Data), want[i].Name, len(want[i].Data), clip(got[i].Data), clip(want[i].Data))
		}
	}
}

func clip(b []byte) []byte {
	return b[:min(len(b), 500)]
}

// wantGraph asks for the graph of a valid store, and for the structure that such a store has.
func wantGraph(t *testing.T, files []api.File, want api.Graph) {
	t.Helper()
	if e := storetwo.Validate(files); e != api.OK {
		t.Fatalf("Validate: %v", e)
	}
	if g, e := storetwo.Denote(files); e != api.OK || !graph.Same(g, want) {
		t.Fatalf("Denote = %+v, %v, want %+v", g, e, want)
	}
	wantStructure(t, files, want)
}

func isEmpty(g api.Graph) bool {
	return len(g.Nodes) == 0 && len(g.Rels) == 0
}

// wantError asks for the error of files that are no valid store.
func wantError(t *testing.T, what string, files []api.File, want api.Errno) {
	t.Helper()
	if e := storetwo.Validate(files); e != want {
		t.Errorf("%s: Validate: %v, want %v", what, e, want)
	}
	if g, e := storetwo.Denote(files); e != want || !isEmpty(g) {
		t.Errorf("%s: Denote = %+v, %v, want %v", what, g, e, want)
	}
}

// wantRead compares with the model, and answers its error.
func wantRead(t *testing.T, files []api.File) api.Errno {
	t.Helper()
	want, wrong := read(files)
	g, e := storetwo.Denote(files)
	if e != wrong || !graph.Same(g, want) || storetwo.Validate(files) != wrong {
		t.Fatalf("Denote = %+v, %v, want %+v, %v, of %v", g, e, want, wrong, files)
	}
	if e == api.OK {
		wantStructure(t, files, g)
	}
	return e
}

// wantStructure asks for what P18.5 says of a valid store.
func wantStructure(t *testing.T, files []api.File, g api.Graph) {
	t.Helper()
	m := newReading(files)
	if e := m.all(); e != api.OK {
		t.Fatalf("the model answers %v", e)
	}
	types := map[int][]string{} // of the groups of each node
	for _, x := range m.groups {
		name, _ := m.tables["types"].Name(x.Type)
		types[x.Owner] = append(types[x.Owner], name)
	}
	for _, n := range g.Nodes {
		var want []string
		if degree := graph.Degree(g, n.Id); degree >= 50 {
			for _, r := range g.Rels {
				if r.From == n.Id || r.To == n.Id {
					want = append(want, r.Type)
				}
			}
		}
		slices.Sort(want)
		slices.Sort(types[n.Id])
		if !slices.Equal(types[n.Id], slices.Compact(want)) {
			t.Fatalf("node %d has groups of the types %v, want %v", n.Id, types[n.Id], slices.Compact(want))
		}
		wantInline(t, m, n.Props, m.nodes[n.Id].Slots)
	}
	for _, r := range g.Rels {
		wantInline(t, m, r.Props, m.rels[r.Id].Slots)
	}
}

// wantInline asks which properties stand in slots: by itself, that part is packed into the same slots.
func wantInline(t *testing.T, m *reading, props []api.Prop, in []byte) {
	t.Helper()
	inline, e := slots.Unpack(in, nil)
	if e != api.OK {
		t.Fatalf("the slots %v: %v", in, e)
	}
	values := map[int]api.Value{}
	for _, p := range props {
		key, _ := m.tables["keys"].Find(p.Key)
		values[key] = p.Val
	}
	left := len(in) / 8
	for key := range 200 {
		v, found := values[key]
		fits := found && slots.Need(v) <= left
		if isIn := slices.ContainsFunc(inline, func(p api.KeyVal) bool { return p.Key == key }); isIn != fits {
			t.Fatalf("key %d is inline: %v, but fits: %v (%v in %v)", key, isIn, fits, props, in)
		}
		if fits {
			left -= slots.Need(v)
		}
	}
}

// The document's examples.

// P18.1, P18.2
func TestEmptyGraph(t *testing.T) {
	files := built(t, api.Graph{})
	for i, f := range files {
		if f.Name == "meta" {
			if string(f.Data) != "GSTR\x00\x02" {
				t.Errorf("meta is %q", f.Data)
			}
		} else if len(f.Data) != 16 || string(f.Data[:4]) != "SREC" || f.Data[5] != 2 {
			t.Errorf("file %d is %v", i, f)
		}
	}
	wantFiles(t, files, write(api.Graph{}, nil).files())
	wantGraph(t, files, api.Graph{})
}

func five() api.Graph {
	return api.Graph{Nodes: []api.Node{{Id: 0, Props: []api.Prop{prop("k", number(5))}}}}
}

// P18.1, P18.2
func TestFive(t *testing.T) {
	files := built(t, five())
	node := append([]byte{1}, padded(append(make([]byte, 17), 0, 1, 2, 0, 0, 0, 0, 0, 0, 0, 5), 65)...)
	if b := files[5].Data[16:]; !bytes.Equal(b, node) {
		t.Errorf("nodes: %v, want %v", b, node)
	}
	if len(files[0].Data) != 16 || len(files[1].Data) != 16 {
		t.Errorf("blobs has %d bytes, and groups %d", len(files[0].Data), len(files[1].Data))
	}
	wantFiles(t, files, write(five(), nil).files())
	wantGraph(t, files, five())
}

// P18.2: a relationship with properties inside and outside, byte by byte.
func TestRelationship(t *testing.T) {
	g := api.Graph{Nodes: []api.Node{{Id: 1}, {Id: 3, Labels: []string{"A", "B"}}}, Rels: []api.Rel{
		{Id: 2, Type: "T", From: 3, To: 1, Props: []api.Prop{prop("a", texts(30)), prop("b", yes())}},
		{Id: 4, Type: "S", From: 3, To: 3},
	}}
	files := built(t, g)
	want := slices.Concat(
		make([]byte, 2*63),
		[]byte{1, 0, 0, 0, 3, 0, 0, 0, 1, 0, 1, 0, 0, 0, 0, 0, 0, 0, 5, 0, 0, 0, 0, 0, 0, 0, 0, 0, 0, 0, 1},
		padded([]byte{0, 2, 1, 1}, 32),
		make([]byte, 63),
		[]byte{1, 0, 0, 0, 3, 0, 0, 0, 3, 0, 0, 0, 0, 0, 3, 0, 0, 0, 0, 0, 0, 0, 0, 0, 0, 0, 0, 0, 0, 0, 0},
		make([]byte, 32),
	)
	if b := files[6].Data[16:]; !bytes.Equal(b, want) {
		t.Errorf("rels: %v, want %v", b, want)
	}
	want = slices.Concat(
		make([]byte, 66),
		[]byte{1, 0, 0, 0, 0, 3}, make([]byte, 60),
		make([]byte, 66),
		[]byte{1, 0, 0, 0, 0, 3, 0, 0, 0, 0, 1, 2}, make([]byte, 54),
	)
	if b := files[5].Data[16:]; !bytes.Equal(b, want) {
		t.Errorf("nodes: %v, want %v", b, want)
	}
	want = slices.Concat(
		[]byte{1, 1, 25, 0, 0, 0, 2, 0, 1, 0, 33, 4, 0, 30}, bytes.Repeat([]byte("x"), 18),
		[]byte{1, 0, 12, 0, 0, 0, 0}, bytes.Repeat([]byte("x"), 12), make([]byte, 13),
	)
	if b := files[0].Data[16:]; !bytes.Equal(b, want) {
		t.Errorf("blobs: %v, want %v", b, want)
	}
	wantFiles(t, files, write(g, nil).files())
	wantGraph(t, files, g)
}

// star is a graph in which node 0 has a degree: with node 1 and itself, by so many loops.
func star(degree, loops int) api.Graph {
	g := api.Graph{Nodes: []api.Node{{Id: 0}, {Id: 1}}}
	for id := range degree {
		r := api.Rel{Id: id, Type: []string{"A", "B", "C"}[id%3], From: id % 2, To: (id + 1) % 2}
		if id < loops {
			r.From, r.To = 0, 0
		}
		g.Rels = append(g.Rels, r)
	}
	return g
}

// P18.2, P18.5: from which degree on a node is dense; a loop counts once.
func TestDense(t *testing.T) {
	for degree := 47; degree <= 53; degree++ {
		for _, loops := range []int{0, 1, 2, 3, 4, degree - 1, degree} {
			g := star(degree, loops)
			files := built(t, g)
			wantFiles(t, files, write(g, nil).files())
			wantGraph(t, files, g)
			for id, d := range []int{degree, degree - loops} {
				if dense := files[5].Data[16+66*id+1]; (dense == 1) != (d >= 50) {
					t.Errorf("node %d with degree %d: the byte for dense is %d", id, d, dense)
				}
			}
		}
	}
	files := built(t, star(50, 0))
	groups := slices.Concat(
		[]byte{1, 0, 0, 0, 0, 0, 0, 0, 0, 0, 1, 0, 0, 0, 4, 0, 0, 0, 0, 0, 0, 0, 2},
		[]byte{1, 0, 1, 0, 0, 0, 0, 0, 0, 0, 5, 0, 0, 0, 2, 0, 0, 0, 0, 0, 0, 0, 3},
		[]byte{1, 0, 2, 0, 0, 0, 0, 0, 0, 0, 3, 0, 0, 0, 6, 0, 0, 0, 0, 0, 0, 0, 0},
		[]byte{1, 0, 0, 0, 0, 0, 1, 0, 0, 0, 4, 0, 0, 0, 1, 0, 0, 0, 0, 0, 0, 0, 5},
		[]byte{1, 0, 1, 0, 0, 0, 1, 0, 0, 0, 2, 0, 0, 0, 5, 0, 0, 0, 0, 0, 0, 0, 6},
		[]byte{1, 0, 2, 0, 0, 0, 1, 0, 0, 0, 6, 0, 0, 0, 3, 0, 0, 0, 0, 0, 0, 0, 0},
	)
	if b := files[1].Data[16:]; !bytes.Equal(b, groups) {
		t.Errorf("groups: %v, want %v", b, groups)
	}
	if b := files[5].Data[16:]; !bytes.HasPrefix(b, []byte{1, 1, 0, 0, 0, 1}) || !bytes.HasPrefix(b[66:], []byte{1, 1, 0, 0, 0, 4}) {
		t.Errorf("nodes: %v", b)
	}
}

// names and values from which the random graphs are made.
var (
	someLabels = []string{"A", "B", "a", "B2", "_", "Z9", "AB", "ABC", "b", "L"}
	someTypes  = []string{"T", "S", "KNOWS", "t"}
	someKeys   = []string{"k", "a", "K", "_k", "k2", "name", "b", "since"}
	someNums   = []int64{0, 1, 258, math.MinInt64, 0x7ff0000000000000, 0x7ff8000000000000, -1, math.MaxInt64}
)

// some gives up to n different ones of a list, in order.
func some(rng *rand.Rand, list []string, n int) []string {
	var chosen []string
	for _, i := range rng.Perm(len(list))[:rng.Intn(min(n, len(list))+1)] {
		chosen = append(chosen, list[i])
	}
	slices.Sort(chosen)
	return chosen
}

func randomNum(rng *rand.Rand, kind int) int64 {
	switch kind {
	case api.KindBool:
		return rng.Int63n(2)
	case api.KindFloat:
		return someNums[rng.Intn(len(someNums)-2)] // not the last, which are other forms of NaNs
	}
	return someNums[rng.Intn(len(someNums))]
}

// randomText is of a length at which one more byte takes another slot or block.
func randomText(rng *rand.Rand) string {
	lengths := []int{0, 1, 3, 4, 11, 12, 18, 19, 20, 27, 28, 43, 44, 68, 69}
	b := make([]byte, lengths[rng.Intn(len(lengths))])
	rng.Read(b)
	return string(b)
}

func randomValue(rng *rand.Rand) api.Value {
	v := api.Value{Kind: 1 + rng.Intn(8)}
	switch {
	case v.Kind == api.KindText:
		v.Text = randomText(rng)
	case v.Kind == api.KindTexts:
		for range rng.Intn(4) {
			v.Texts = append(v.Texts, randomText(rng))
		}
	case v.Kind > api.ListOf:
		for range rng.Intn(6) {
			v.Nums = append(v.Nums, randomNum(rng, v.Kind-api.ListOf))
		}
	default:
		v.Num = randomNum(rng, v.Kind)
	}
	return v
}

func randomProps(rng *rand.Rand, most int) []api.Prop {
	var props []api.Prop
	for _, key := range some(rng, someKeys, most) {
		props = append(props, prop(key, randomValue(rng)))
	}
	return props
}

// randomGraph has some nodes near the degree of a dense one, if crowded is 1.
func randomGraph(rng *rand.Rand, crowded int) api.Graph {
	var g api.Graph
	id := rng.Intn(3)
	for range rng.Intn(5) + crowded {
		g.Nodes = append(g.Nodes, api.Node{Id: id, Labels: some(rng, someLabels, 8), Props: randomProps(rng, 6)})
		id += 1 + rng.Intn(2)*rng.Intn(3)
	}
	if len(g.Nodes) == 0 {
		return g
	}
	id = rng.Intn(3)
	hub := g.Nodes[rng.Intn(len(g.Nodes))].Id
	for range rng.Intn(9) + crowded*46 {
		r := api.Rel{Id: id, Type: someTypes[rng.Intn(4)], From: g.Nodes[rng.Intn(len(g.Nodes))].Id, To: g.Nodes[rng.Intn(len(g.Nodes))].Id}
		if crowded == 0 || rng.Intn(9) == 0 {
			r.Props = randomProps(rng, 4)
		}
		if end := []*int{&r.From, &r.To, nil}[rng.Intn(2+rng.Intn(20)/19)]; crowded == 1 && end != nil {
			*end = hub
		}
		g.Rels = append(g.Rels, r)
		id += 1 + rng.Intn(2)*rng.Intn(3)
	}
	return g
}

// bound is P18.4's.
func bound(g api.Graph) int {
	n, r, p, w := 0, 0, 0, 0
	names := len(graph.Names(g, 1)) + len(graph.Names(g, 2)) + len(graph.Names(g, 3))
	props := func(list []api.Prop) {
		for _, x := range list {
			p++
			w += value.Weight(x.Val)
		}
	}
	for _, x := range g.Nodes {
		n = max(n, x.Id+1)
		props(x.Props)
	}
	for _, x := range g.Rels {
		r = max(r, x.Id+1)
		props(x.Props)
	}
	return 1100 + 66*n + 109*r + 38*p + 42*names + 2*w
}

// wantStore asks everything of the store that is built for a graph.
func wantStore(t *testing.T, g api.Graph) {
	t.Helper()
	files := built(t, g)
	wantFiles(t, files, write(g, nil).files())
	wantGraph(t, files, g)
	size := 0
	for _, f := range files {
		size += len(f.Data)
	}
	if most := bound(g); size > most {
		t.Fatalf("the store has %d bytes, more than %d", size, most)
	}
}

// P18.1, P18.2, P18.4, P18.5: what is built, byte by byte.
func TestStoresOfRandomGraphs(t *testing.T) {
	rng := rand.New(rand.NewSource(1))
	for range 2000 {
		wantStore(t, randomGraph(rng, 0))
	}
	dense := 0
	for range 500 {
		g := randomGraph(rng, 1)
		wantStore(t, g)
		if slices.ContainsFunc(g.Nodes, func(n api.Node) bool { return graph.Degree(g, n.Id) >= 50 }) {
			dense++
		}
	}
	if dense < 100 || dense > 400 {
		t.Errorf("%d of 500 graphs have dense nodes", dense)
	}
}

// P18.1, P18.5: the same graphs in stores whose names, groups, blocks and chains stand in any order, with gaps.
func TestStoresOfAnyOrder(t *testing.T) {
	rng := rand.New(rand.NewSource(2))
	other := 0
	for i := range 3500 {
		g := randomGraph(rng, min(1, i/3000))
		files := write(g, rng).files()
		wantGraph(t, files, g)
		if !sameFiles(files, built(t, g)) {
			other++
		}
	}
	if other < 2500 {
		t.Errorf("only %d stores were different from those built", other)
	}
}

// P18.2: a graph that isn't valid.
func TestBuildOfWrongGraphs(t *testing.T) {
	node := func(labels ...string) api.Node { return api.Node{Id: 1, Labels: labels} }
	two := []api.Node{{Id: 0}, {Id: 1}}
	for i, c := range []struct {
		g    api.Graph
		want api.Errno
	}{
		{api.Graph{Nodes: []api.Node{{Id: -1}}}, api.ErrNodeId},
		{api.Graph{Nodes: []api.Node{{Id: 1024}}}, api.ErrNodeId},
		{api.Graph{Nodes: []api.Node{{Id: 1}, {Id: 0}}}, api.ErrOrder},
		{api.Graph{Nodes: []api.Node{{Id: 1}, {Id: 1}}}, api.ErrOrder},
		{api.Graph{Nodes: []api.Node{node("A", "B", "C", "D", "E", "F", "G", "H", "I")}}, api.ErrLabels},
		{api.Graph{Nodes: []api.Node{node("")}}, api.ErrName},
		{api.Graph{Nodes: []api.Node{node("B", "A")}}, api.ErrOrder},
		{api.Graph{Nodes: []api.Node{{Props: []api.Prop{prop("b", number(1)), prop("a", number(1))}}}}, api.ErrOrder},
		{api.Graph{Nodes: []api.Node{{Props: []api.Prop{prop("b", api.Value{Kind: 1, Num: 2})}}}}, api.ErrBool},
		{api.Graph{Nodes: []api.Node{{Props: []api.Prop{prop("b", api.Value{})}}}}, api.ErrKind},
		{api.Graph{Nodes: two, Rels: []api.Rel{{Id: -1, Type: "T"}}}, api.ErrRelId},
		{api.Graph{Nodes: two, Rels: []api.Rel{{Id: math.MaxInt, Type: "T"}}}, api.ErrRelId},
		{api.Graph{Nodes: two, Rels: []api.Rel{{Id: 3, Type: "T"}, {Id: 3, Type: "T"}}}, api.ErrOrder},
		{api.Graph{Nodes: two, Rels: []api.Rel{{Id: 3, Type: "T"}, {Id: math.MinInt, Type: "T"}}}, api.ErrRelId},
		{api.Graph{Nodes: two, Rels: []api.Rel{{Type: "T", From: 2}}}, api.ErrEnd},
		{api.Graph{Nodes: two, Rels: []api.Rel{{Type: "T", To: -1}}}, api.ErrEnd},
		{api.Graph{Rels: []api.Rel{{Type: "T"}}}, api.ErrEnd},
		{api.Graph{Nodes: two, Rels: []api.Rel{{Type: "é"}}}, api.ErrName},
		{api.Graph{Nodes: two, Rels: []api.Rel{{Type: "T", Props: make([]api.Prop, 17)}}}, api.ErrProps},
		{crowded(201, 3), api.ErrTokens},
		{loaded(263, texts(1000)), api.ErrWeight},
	} {
		files, e := storetwo.Build(c.g)
		if e != c.want || len(files) != 0 {
			t.Errorf("%d: Build: %d files, %v, want %v", i, len(files), e, c.want)
		}
	}
}

// crowded is a graph with n names of one sort.
func crowded(n, sort int) api.Graph {
	g := api.Graph{Nodes: []api.Node{{Id: 0}}}
	for i := range n {
		name := "n" + strconv.Itoa(1000+i)
		switch sort {
		case 1:
			g.Nodes = append(g.Nodes, api.Node{Id: i + 1, Labels: []string{name}})
		case 2:
			g.Rels = append(g.Rels, api.Rel{Id: i, Type: name})
		case 3:
			g.Nodes = append(g.Nodes, api.Node{Id: i + 1, Props: []api.Prop{prop(name, number(1))}})
		}
	}
	return g
}

// loaded is a graph with n properties, all with one value, that fill the nodes one after another, and then the relationships.
func loaded(n int, v api.Value) api.Graph {
	keys := make([]api.Prop, 16)
	for i := range keys {
		keys[i] = prop("k"+strconv.Itoa(100+i), v)
	}
	var g api.Graph
	for id := 0; id < 1024 && n > 0; id++ {
		g.Nodes = append(g.Nodes, api.Node{Id: id, Props: slices.Clone(keys[:min(n, 16)])})
		n -= min(n, 16)
	}
	for id := 0; id < 2048 && n > 0; id++ {
		g.Rels = append(g.Rels, api.Rel{Id: id, Type: "T", From: id % 1024, To: (id * 7) % 1024, Props: slices.Clone(keys[:min(n, 16)])})
		n -= min(n, 16)
	}
	return g
}

// P18.2, P18.3, P18.4: graphs at the limits of what stands in slots and blobs, and of names and ids.
func TestLimits(t *testing.T) {
	most := (1024 + 2048) * 16
	t.Run("bools", func(t *testing.T) { wantStore(t, loaded(most, yes())) })
	t.Run("blobs", func(t *testing.T) {
		// A blob for as many owners as possible, each with one property that doesn't fit.
		g := loaded((1024+1300)*16, yes())
		for i := range g.Nodes {
			g.Nodes[i].Props = []api.Prop{prop("k", texts(44))}
		}
		for i := range g.Rels {
			g.Rels[i].Props = []api.Prop{prop("k", texts(28))}
		}
		wantStore(t, g)
	})
	t.Run("texts", func(t *testing.T) {
		g := loaded(261, texts(1000))
		left := api.MaxWeight - graph.Weight(g)
		g.Nodes[16].Props = append(g.Nodes[16].Props, prop("z", texts(left-3)))
		if graph.Weight(g) != api.MaxWeight {
			t.Fatalf("the graph's weight is %d", graph.Weight(g))
		}
		wantStore(t, g)
	})
	t.Run("lists", func(t *testing.T) {
		wantStore(t, loaded(6, api.Value{Kind: api.KindTexts, Texts: slices.Repeat([]string{strings.Repeat("x", 1000)}, 40)}))
	})
	for sort := 1; sort <= 3; sort++ {
		t.Run("names", func(t *testing.T) { wantStore(t, crowded(200, sort)) })
	}
	t.Run("labels", func(t *testing.T) {
		g := crowded(200, 1)
		for i := range g.Nodes {
			for k := range 8 {
				g.Nodes[i].Labels = append(g.Nodes[i].Labels, "n"+strconv.Itoa(1000+(i+k*k*k)%200))
			}
			slices.Sort(g.Nodes[i].Labels)
			g.Nodes[i].Labels = slices.Compact(g.Nodes[i].Labels)
			g.Nodes[i].Labels = g.Nodes[i].Labels[:min(8, len(g.Nodes[i].Labels))]
		}
		wantStore(t, g)
	})
	t.Run("ids", func(t *testing.T) {
		wantStore(t, api.Graph{Nodes: []api.Node{{Id: 1023}}, Rels: []api.Rel{{Id: 2047, Type: "T", From: 1023, To: 1023}}})
	})
}

// P18.2, P18.3, P18.4: graphs with as many relationships as there can be.
func TestLimitsOfGroups(t *testing.T) {
	ends := func(from, to func(id int) int, token func(id int) int) api.Graph {
		g := api.Graph{}
		for id := range 1024 {
			g.Nodes = append(g.Nodes, api.Node{Id: id})
		}
		for id := range 2048 {
			g.Rels = append(g.Rels, api.Rel{Id: id, Type: "t" + strconv.Itoa(100+token(id)), From: from(id), To: to(id)})
		}
		return g
	}
	// Each relationship alone in a group at both of its ends.
	t.Run("groups", func(t *testing.T) {
		wantStore(t, ends(func(id int) int { return min(id/51, 39) * 2 }, func(id int) int { return min(id/51, 39)*2 + 1 }, func(id int) int { return id % 200 }))
	})
	t.Run("one node", func(t *testing.T) {
		wantStore(t, ends(func(id int) int { return 1023 * (id % 3 % 2) }, func(id int) int { return 1023 * (id / 3 % 3 % 2) }, func(id int) int { return id % 7 % 4 }))
	})
	t.Run("49 at each", func(t *testing.T) {
		wantStore(t, ends(func(id int) int { return id / 49 }, func(id int) int { return 1000 - id/49 }, func(id int) int { return id % 200 }))
	})
	t.Run("50 at each", func(t *testing.T) {
		wantStore(t, ends(func(id int) int { return id / 50 }, func(id int) int { return 1000 - id/50 }, func(id int) int { return id % 200 }))
	})
}

// P18.1: the limits of the document's steps 5, 8 and 10, from both sides.
func TestLimitsOfStores(t *testing.T) {
	counts := func(file string, n int) []api.File {
		s := write(five(), nil)
		s.parts[file].grow(n)
		return s.files()
	}
	wantGraph(t, counts("nodes", 1024), five())
	wantError(t, "1025 nodes", counts("nodes", 1025), api.ErrNodeId)
	wantGraph(t, counts("rels", 2048), five())
	wantError(t, "2049 relationships", counts("rels", 2049), api.ErrRelId)
	wantGraph(t, counts("groups", 65536), five())
	wantError(t, "65537 groups", counts("groups", 65537), api.ErrCount)
	wantGraph(t, counts("blobs", 65536), five())
	wantGraph(t, counts("labels", 200), five())
	wantError(t, "201 labels", counts("labels", 201), api.ErrTokens)

	for n := 15; n <= 18; n++ {
		g := api.Graph{Nodes: []api.Node{{Id: 0}}}
		for i := range n {
			g.Nodes[0].Props = append(g.Nodes[0].Props, prop("k"+strconv.Itoa(100+i), number(int64(i))))
		}
		if files := write(g, nil).files(); n <= 16 {
			wantGraph(t, files, g)
		} else {
			wantError(t, strconv.Itoa(n)+" properties", files, api.ErrProps)
		}
	}

	g := loaded(262, texts(997))
	for last, want := range map[int]api.Errno{141: api.OK, 142: api.ErrWeight} {
		g.Rels = []api.Rel{{Id: 0, Type: "T", Props: []api.Prop{prop("k", texts(last))}}}
		if want == api.OK {
			wantGraph(t, write(g, nil).files(), g)
		} else {
			wantError(t, "a weight of "+strconv.Itoa(graph.Weight(g)), write(g, nil).files(), want)
		}
	}
}

// P18.1, P18.5: a group anywhere in its file, and chains in any order, but types in ascending order.
func TestGroupsAnywhere(t *testing.T) {
	g := star(53, 5)
	s := write(g, nil)
	first := s.record("nodes", 0)[1:5]
	old := s.record("groups", 0)
	s.parts["groups"].put(65535, slices.Clone(old))
	s.parts["groups"].records[0] = make([]byte, 23)
	copy(first, ptr(nil, 65535))
	if wrong := storetwo.Validate(s.files()); wrong != api.OK {
		t.Fatalf("Validate: %v", wrong)
	}
	wantGraph(t, s.files(), g)
}
