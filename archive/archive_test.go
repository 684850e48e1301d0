package archive_test

import (
	"bytes"
	"math"
	"math/rand"
	"slices"
	"strconv"
	"strings"
	"testing"

	"satchel/api"
	"satchel/archive"
	"satchel/graph"
)

func number(n int64) api.Value { return api.Value{Kind: api.KindInt, Num: n} }

func text(s string) api.Value { return api.Value{Kind: api.KindText, Text: s} }

func yes() api.Value { return api.Value{Kind: api.KindBool, Num: 1} }

func prop(key string, v api.Value) api.Prop { return api.Prop{Key: key, Val: v} }

func isEmpty(g api.Graph) bool {
	return len(g.Nodes) == 0 && len(g.Rels) == 0
}

func clip(b []byte) []byte {
	return b[:min(len(b), 400)]
}

// wantPieces compares Stream with pieces, twice and stopped behind each of them.
func wantPieces(t *testing.T, g api.Graph, want [][]byte) {
	t.Helper()
	stream := archive.Stream(g)
	stops := []int{len(want) + 1, len(want), len(want) / 2, 2, 1, len(want) + 1}
	for _, stop := range stops {
		var got [][]byte
		for piece := range stream {
			got = append(got, piece)
			if len(got) == stop {
				break
			}
		}
		if !slices.EqualFunc(got, want[:min(stop, len(want))], bytes.Equal) {
			t.Fatalf("stopped at piece %d: % d, want % d", stop, got, want)
		}
	}
}

// wantArchive asks for the archive of a valid graph, and whether it is read.
func wantArchive(t *testing.T, g api.Graph) {
	t.Helper()
	pieces := write(g)
	want := bytes.Join(pieces, nil)
	b, e := archive.Write(g)
	if e != api.OK || !bytes.Equal(b, want) {
		t.Fatalf("Write = % d, %v, want % d", clip(b), e, clip(want))
	}
	wantPieces(t, g, pieces)
	if h, e := archive.Read(b); e != api.OK || !graph.Same(h, g) {
		t.Fatalf("Read = %+v, %v, want %+v", h, e, g)
	}
}

// wantGraph compares what a Reader gives with what Read should give for the same bytes, twice.
func wantGraph(t *testing.T, r *archive.Reader, b []byte) {
	t.Helper()
	want, wrong := read(b)
	for range 2 {
		if g, e := r.Graph(); e != wrong || !graph.Same(g, want) {
			t.Fatalf("Graph = %+v, %v, want %+v, %v, of % d", g, e, want, wrong, clip(b))
		}
	}
}

// wantFed feeds chunks, and compares all answers with the model.
func wantFed(t *testing.T, chunks ...[]byte) {
	t.Helper()
	r := archive.NewReader()
	wantGraph(t, r, nil)
	var all []byte
	var want api.Errno
	for i, chunk := range chunks {
		if want == api.OK {
			all = append(all, chunk...)
			want = fed(all)
		}
		if e := r.Feed(chunk); e != want {
			t.Fatalf("chunk %d: Feed = %v, want %v, of %d bytes % d", i, e, want, len(all), clip(all))
		}
		if want == api.OK {
			wantGraph(t, r, all)
		} else if g, e := r.Graph(); e != want || !isEmpty(g) {
			t.Fatalf("chunk %d: Graph = %+v, %v, want %v", i, g, e, want)
		}
	}
}

// wantAnswer compares Read with the model, and answers its error.
func wantAnswer(t *testing.T, b []byte) api.Errno {
	t.Helper()
	want, wrong := read(b)
	if g, e := archive.Read(b); e != wrong || !graph.Same(g, want) {
		t.Fatalf("Read = %+v, %v, want %+v, %v, of % d", g, e, want, wrong, clip(b))
	}
	return wrong
}

// wantRead compares Read, and a Reader of one chunk, with the model, and answers its error.
func wantRead(t *testing.T, b []byte) api.Errno {
	t.Helper()
	wantFed(t, b)
	return wantAnswer(t, b)
}

// single cuts b into chunks of one byte.
func single(b []byte) [][]byte {
	return slices.Collect(slices.Chunk(b, 1))
}

// cut cuts b into chunks of random sizes, some of them empty.
func cut(rng *rand.Rand, b []byte, most int) [][]byte {
	var chunks [][]byte
	for len(b) > 0 {
		n := min(rng.Intn(most+1), len(b))
		chunks = append(chunks, b[:n])
		b = b[n:]
	}
	return chunks
}

// The document's examples.

// P20.1, P20.2, P20.3
func TestEmptyGraph(t *testing.T) {
	b, e := archive.Write(api.Graph{})
	if e != api.OK || len(b) != 8+11+25 || string(b[:8]) != "SATCHEL1" || !bytes.Equal(b[24:36], make([]byte, 12)) {
		t.Errorf("Write = % d, %v", b, e)
	}
	wantArchive(t, api.Graph{})
	wantFed(t, single(b)...)
}

// P20.1
func TestNode(t *testing.T) {
	g := api.Graph{Nodes: []api.Node{{Id: 3, Labels: []string{"A"}, Props: []api.Prop{prop("k", yes())}}}}
	b, e := archive.Write(g)
	if e != api.OK || !bytes.Equal(b[19:24+14], []byte{2, 0, 0, 0, 14, 0, 0, 0, 3, 1, 1, 65, 1, 1, 107, 0, 2, 1, 1}) {
		t.Errorf("Write = % d, %v", b, e)
	}
	wantArchive(t, g)
}

// P20.1: a relationship between two nodes, byte by byte.
func TestRelationship(t *testing.T) {
	g := api.Graph{
		Nodes: []api.Node{{Id: 1}, {Id: 1023, Labels: []string{"A", "B"}}},
		Rels:  []api.Rel{{Id: 258, Type: "KNOWS", From: 1023, To: 1, Props: []api.Prop{prop("k", text("ab")), prop("since", number(258))}}},
	}
	b, e := archive.Write(g)
	if want := slices.Concat(
		[]byte{0, 0, 1, 2, 0, 0, 3, 255, 0, 0, 0, 1}, []byte("\x05KNOWS"), []byte{2, 1, 'k', 0, 5, 4, 0, 2, 'a', 'b'},
		[]byte("\x05since"), []byte{0, 9, 2, 0, 0, 0, 0, 0, 0, 1, 2},
	); e != api.OK || !bytes.Contains(b, append([]byte{3, 0, 0, 0, byte(len(want))}, want...)) {
		t.Errorf("Write = % d, %v", b, e)
	}
	if trail := b[len(b)-25:]; !bytes.HasPrefix(trail, []byte{4, 0, 0, 0, 16, 0, 0, 0, 2, 0, 0, 0, 1, 0, 0, 0, 14}) {
		t.Errorf("the last frame is % d", trail)
	}
	wantArchive(t, g)
}

var (
	someNames = []string{"A", "B", "a", "B2", "_", "Z9", "AB", "ABC", "b", strings.Repeat("L", 40)}
	someTexts = []string{"", "a", "SATCHEL1", "\x00\xff", strings.Repeat("x", 300), strings.Repeat("y", 1000)}
	someNums  = []int64{0, 1, 258, -1, math.MinInt64, math.MaxInt64, 0x7ff0000000000000, 0x7ff8000000000000}
)

// some gives up to n different names, in order.
func some(rng *rand.Rand, n int) []string {
	var chosen []string
	for _, i := range rng.Perm(len(someNames))[:rng.Intn(n+1)] {
		chosen = append(chosen, someNames[i])
	}
	slices.Sort(chosen)
	return chosen
}

func randomNum(rng *rand.Rand, kind int) int64 {
	switch kind {
	case api.KindBool:
		return rng.Int63n(2)
	case api.KindFloat:
		return someNums[[]int{0, 1, 2, 6, 7}[rng.Intn(5)]] // the others are other forms of NaNs, or may be
	}
	return someNums[rng.Intn(len(someNums))]
}

func randomValue(rng *rand.Rand) api.Value {
	v := api.Value{Kind: 1 + rng.Intn(8)}
	for range rng.Intn(4) {
		v.Nums = append(v.Nums, randomNum(rng, v.Kind-api.ListOf))
		v.Texts = append(v.Texts, someTexts[rng.Intn(4)])
	}
	switch {
	case v.Kind < api.KindText:
		return api.Value{Kind: v.Kind, Num: randomNum(rng, v.Kind)}
	case v.Kind == api.KindText:
		return text(someTexts[rng.Intn(6)])
	case v.Kind < api.KindTexts:
		v.Texts = nil
	default:
		v.Nums = nil
	}
	return v
}

func randomProps(rng *rand.Rand) []api.Prop {
	var props []api.Prop
	for _, key := range some(rng, 4) {
		props = append(props, prop(key, randomValue(rng)))
	}
	return props
}

func randomGraph(rng *rand.Rand) api.Graph {
	var g api.Graph
	for id := range 1 + rng.Intn(5) {
		g.Nodes = append(g.Nodes, api.Node{Id: id * (1 + 254*rng.Intn(2)), Labels: some(rng, 8), Props: randomProps(rng)})
	}
	slices.SortFunc(g.Nodes, func(a, b api.Node) int { return a.Id - b.Id })
	g.Nodes = slices.CompactFunc(g.Nodes, func(a, b api.Node) bool { return a.Id == b.Id })
	id := rng.Intn(600)
	for range rng.Intn(6) {
		from, to := g.Nodes[rng.Intn(len(g.Nodes))].Id, g.Nodes[rng.Intn(len(g.Nodes))].Id
		g.Rels = append(g.Rels, api.Rel{Id: id, Type: someNames[rng.Intn(10)], From: from, To: to, Props: randomProps(rng)})
		id += 1 + rng.Intn(40)
	}
	return g
}

// P20.1, P20.2, P20.3, P20.4: what is written, byte by byte, and what is read of it in any pieces.
func TestRandomGraphs(t *testing.T) {
	rng := rand.New(rand.NewSource(1))
	for range 3000 {
		g := randomGraph(rng)
		wantArchive(t, g)
		b := written(g)
		wantFed(t, cut(rng, b, 1+len(b)/3)...)
		wantFed(t, write(g)...)
	}
}

// P20.3, P20.4: archives with wrong bytes in the frames, whose checksums are right again.
func TestChangedFrames(t *testing.T) {
	rng := rand.New(rand.NewSource(3))
	errors := map[api.Errno]int{}
	for range 20000 {
		parts := body(randomGraph(rng))
		f := &parts[rng.Intn(len(parts))]
		switch rng.Intn(4) {
		case 0:
			f.data[rng.Intn(len(f.data))] = byte(rng.Intn(256))
		case 1:
			f.data[rng.Intn(len(f.data))] ^= 1
		case 2:
			f.data = f.data[:rng.Intn(len(f.data))]
		case 3:
			f.kind = rng.Intn(6)
		}
		b := []byte("SATCHEL1")
		for _, f := range parts {
			b = append(b, f.bytes()...)
		}
		b = append(b, part{kind: 4, data: trailBytes(graphOf(parts), b)}.bytes()...)
		errors[wantRead(t, b)]++
		wantFed(t, cut(rng, b, 1+len(b)/2)...)
	}
	for _, e := range []api.Errno{api.OK, api.ErrVersion, api.ErrFrame, api.ErrRecord, api.ErrName, api.ErrNodeId, api.ErrRelId, api.ErrOrder, api.ErrEnd} {
		if errors[e] == 0 {
			t.Errorf("no archive with %v: %v", e, errors)
		}
	}
}

// graphOf is the graph of frames, if they can be read.
func graphOf(parts []part) api.Graph {
	var g api.Graph
	for _, p := range parts {
		scanData(&g, p.kind, p.kind, p.data, nil)
	}
	return g
}

// sample is a small graph with something of everything.
func sample() api.Graph {
	return api.Graph{
		Nodes: []api.Node{
			{Id: 1, Props: []api.Prop{prop("k", yes())}},
			{Id: 3, Labels: []string{"A", "B"}, Props: []api.Prop{prop("a", text("ab")), prop("b", number(5))}},
		},
		Rels: []api.Rel{{Id: 0, Type: "T", From: 3, To: 3}, {Id: 2, Type: "S", From: 3, To: 1, Props: []api.Prop{prop("k", api.Value{Kind: api.KindBools, Nums: []int64{1, 0}})}}},
	}
}

// P20.3, P20.4: each prefix of an archive, and each byte of it changed.
func TestPrefixesAndChangedBytes(t *testing.T) {
	b := written(sample())
	for n := range b {
		if e := wantRead(t, b[:n]); e != api.ErrShort {
			t.Errorf("%d bytes: %v", n, e)
		}
	}
	wantFed(t, single(b)...)
	for i := range b {
		for _, by := range []byte{1, 2, 4, 8, 16, 32, 64, 128, 255} {
			wrong := bytes.Clone(b)
			wrong[i] ^= by
			if e := wantRead(t, wrong); e == api.OK {
				t.Errorf("byte %d changed by %d: %v", i, by, e)
			}
			wantFed(t, single(wrong)...)
		}
	}
}

// P20.3: each data of a node or a relationship cut off, and continued, with the right checksums.
func TestCutRecords(t *testing.T) {
	g := sample()
	for i, p := range body(g) {
		for n := range len(p.data) + 3 {
			data := append(bytes.Clone(p.data), 0, 1)[:n]
			parts := body(g)
			parts[i].data = data
			b := []byte("SATCHEL1")
			for _, q := range parts {
				b = append(b, q.bytes()...)
			}
			want := api.ErrRecord
			if i == 0 {
				want = api.ErrVersion
			}
			if n == len(p.data) {
				want = api.ErrShort
			}
			if e := wantRead(t, b); e != want {
				t.Errorf("frame %d with %d bytes: %v, want %v", i, n, e, want)
			}
		}
	}
}

// P20.1, P20.2: graphs that aren't valid.
func TestWriteOfWrongGraphs(t *testing.T) {
	node := func(labels ...string) api.Node { return api.Node{Id: 1, Labels: labels} }
	two := []api.Node{{Id: 0}, {Id: 1}}
	loop := api.Rel{Id: 3, Type: "T"}
	for i, c := range []struct {
		g    api.Graph
		want api.Errno
	}{
		{api.Graph{Nodes: []api.Node{{Id: -1}}}, api.ErrNodeId},
		{api.Graph{Nodes: []api.Node{{Id: 1024}}}, api.ErrNodeId},
		{api.Graph{Nodes: []api.Node{{Id: math.MinInt}}}, api.ErrNodeId},
		{api.Graph{Nodes: []api.Node{{Id: 1}, {Id: 0}}}, api.ErrOrder},
		{api.Graph{Nodes: []api.Node{node("A", "B", "C", "D", "E", "F", "G", "H", "I")}}, api.ErrLabels},
		{api.Graph{Nodes: []api.Node{node(strings.Repeat("x", 300))}}, api.ErrName},
		{api.Graph{Nodes: []api.Node{node("B", "A")}}, api.ErrOrder},
		{api.Graph{Nodes: []api.Node{{Props: make([]api.Prop, 17)}}}, api.ErrProps},
		{api.Graph{Nodes: []api.Node{{Props: []api.Prop{prop("b", api.Value{Kind: 1, Num: 2})}}}}, api.ErrBool},
		{api.Graph{Nodes: []api.Node{{Props: []api.Prop{prop("b", api.Value{})}}}}, api.ErrKind},
		{api.Graph{Nodes: two, Rels: []api.Rel{{Id: 2048, Type: "T"}}}, api.ErrRelId},
		{api.Graph{Nodes: two, Rels: []api.Rel{loop, loop}}, api.ErrOrder},
		{api.Graph{Nodes: two, Rels: []api.Rel{{Id: 3, Type: "T", To: 2}}}, api.ErrEnd},
		{api.Graph{Rels: []api.Rel{loop}}, api.ErrEnd},
		{heavy(api.MaxWeight + 1), api.ErrWeight},
	} {
		if b, e := archive.Write(c.g); e != c.want || len(b) != 0 {
			t.Errorf("%d: Write = % d, %v, want %v", i, clip(b), e, c.want)
		}
		for piece := range archive.Stream(c.g) {
			t.Errorf("%d: Stream gives % d", i, clip(piece))
		}
	}
}

// heavy is a graph of one node with a weight, from 16 on.
func heavy(weight int) api.Graph {
	n := api.Node{Id: 7, Labels: slices.Repeat([]string{strings.Repeat("L", 39)}, 8)}
	for i := range n.Labels {
		n.Labels[i] += strconv.Itoa(i)
	}
	full := api.Value{Kind: api.KindTexts, Texts: slices.Repeat([]string{strings.Repeat("z", 1000)}, 40)}
	add := func(v api.Value) {
		n.Props = append(n.Props, prop(strings.Repeat("k", 38)+strconv.Itoa(10+len(n.Props)), v))
	}
	for weight >= 2+40*1002+16 {
		add(full)
		weight -= 2 + 40*1002
	}
	list := api.Value{Kind: api.KindTexts}
	for weight -= 2; weight > 0; {
		size := min(weight, 1002)
		if size < weight && weight < size+2 {
			size -= 2
		}
		list.Texts = append(list.Texts, strings.Repeat("y", size-2))
		weight -= size
	}
	add(list)
	return api.Graph{Nodes: []api.Node{n}}
}

// P20.1, P20.3: graphs at the limits.
func TestLimits(t *testing.T) {
	for _, g := range []api.Graph{heavy(api.MaxWeight), heavy(1000), heavy(65535), heavy(65536), full()} {
		if e, at := graph.Check(g); e != api.OK {
			t.Fatalf("Check: %v, %d", e, at)
		}
		wantArchive(t, g)
		b := written(g)
		r := archive.NewReader()
		for chunk := range slices.Chunk(b, 777) {
			if e := r.Feed(chunk); e != api.OK {
				t.Fatalf("Feed: %v", e)
			}
		}
		if h, e := r.Graph(); e != api.OK || !graph.Same(g, h) {
			t.Fatalf("Graph: %v", e)
		}
	}
}

// full is a graph with as many nodes, relationships and names as there may be.
func full() api.Graph {
	name := func(first string, i int) string { return first + strconv.Itoa(1000+i) + strings.Repeat("_", 35) }
	props := func(i int) []api.Prop {
		var list []api.Prop
		for k := range 16 {
			list = append(list, prop(name("k", (i+k*11)%200), api.Value{Kind: api.KindBool, Num: int64(k % 2)}))
		}
		slices.SortFunc(list, func(a, b api.Prop) int { return strings.Compare(a.Key, b.Key) })
		return list
	}
	var g api.Graph
	for i := range 1024 {
		n := api.Node{Id: i, Props: props(i)}
		for k := range 8 {
			n.Labels = append(n.Labels, name("L", (i+k*7)%200))
		}
		slices.Sort(n.Labels)
		g.Nodes = append(g.Nodes, n)
	}
	for i := range 2048 {
		g.Rels = append(g.Rels, api.Rel{Id: i, Type: name("T", i%200), From: i % 1024, To: i * 7 % 1024, Props: props(i)})
	}
	return g
}
