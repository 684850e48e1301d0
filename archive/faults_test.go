package archive_test

import (
	"bytes"
	"slices"
	"strings"
	"testing"

	"satchel/api"
	"satchel/archive"
)

// fault is something that is wrong with the archive of sample.
type fault struct {
	what  string
	place int // where in the archive it is; of two faults, the one at the lower place comes first
	want  api.Errno
	turn  func(*raw)
}

// raw is an archive in its parts, which can be changed one by one.
type raw struct {
	letters string
	g       api.Graph           // the one that the frames are made of
	turns   [6]func(*part)      // change the frames
	more    [7][]part           // stand ahead of the frames, and behind the last
	trail   func([]byte) []byte // changes the data of the last frame
	tail    []byte
	length  int // how many bytes there are, if it isn't 0
}

func (r *raw) bytes() []byte {
	b := []byte(r.letters)
	parts := body(r.g)
	for i := range 6 {
		for _, p := range r.more[i] {
			b = append(b, p.bytes()...)
		}
		if i == 5 {
			parts = append(parts, part{kind: 4, data: r.trail(trailBytes(r.g, b))})
		}
		if turn := r.turns[i]; turn != nil {
			turn(&parts[i])
		}
		b = append(b, parts[i].bytes()...)
	}
	for _, p := range r.more[6] {
		b = append(b, p.bytes()...)
	}
	b = append(b, r.tail...)
	if r.length > 0 {
		b = b[:r.length]
	}
	return b
}

func newRaw() *raw {
	return &raw{letters: "SATCHEL1", g: sample(), trail: func(b []byte) []byte { return b }}
}

// The places of faults: those of the frames are behind that of the letters, and in front of that of what follows them.
const (
	lettersPlace = -1
	trailPlace   = 5
	tailPlace    = 6
	graphPlace   = 7
)

// turned is a fault of a frame.
func turned(what string, frame int, want api.Errno, turn func(*part)) fault {
	return fault{what, frame, want, func(r *raw) { r.turns[frame] = turn }}
}

// inserted is a fault by one frame more, ahead of another.
func inserted(what string, frame int, want api.Errno, p part) fault {
	return fault{what, frame, want, func(r *raw) { r.more[frame] = append(r.more[frame], p) }}
}

// ofGraph is a fault of the graph.
func ofGraph(what string, want api.Errno, turn func(*api.Graph)) fault {
	return fault{what, graphPlace, want, func(r *raw) { turn(&r.g) }}
}

func setData(b ...byte) func(*part) {
	return func(p *part) { p.data = b }
}

func setKind(kind int) func(*part) {
	return func(p *part) { p.kind = kind }
}

func setLength(n int) func(*part) {
	return func(p *part) { p.length = func(int) int { return n } }
}

// changed is a fault of one byte in the data of a frame.
func changed(what string, frame int, at int, c byte) fault {
	return turned(what, frame, api.ErrRecord, func(p *part) {
		p.data = body(sample())[frame].data
		p.data[at] = c
	})
}

// frameFaults are those that every frame may have.
func frameFaults() []fault {
	var all []fault
	for i := range 6 {
		all = append(all,
			turned("a wrong checksum", i, api.ErrSum, func(p *part) { p.wrongSum = 1 }),
			turned("a wrong highest bit of a checksum", i, api.ErrSum, func(p *part) { p.wrongSum = 1 << 31 }),
			turned("a length above the limit", i, api.ErrLong, setLength(1048577)),
			turned("the greatest length", i, api.ErrLong, setLength(1<<32-1)),
			turned("a length that leads beyond the end", i, api.ErrShort, setLength(1048576)),
			turned("a length too small", i, api.ErrSum, func(p *part) { p.length = func(n int) int { return n - 1 } }),
			turned("type 0", i, api.ErrFrame, setKind(0)),
			turned("type 5", i, api.ErrFrame, setKind(5)),
			turned("type 255", i, api.ErrFrame, setKind(255)),
			inserted("type 0, inserted", i, api.ErrFrame, part{kind: 0}),
			inserted("type 5, inserted", i, api.ErrFrame, part{kind: 5, data: []byte{0, 1}}),
			inserted("a wrong type with a wrong checksum", i, api.ErrSum, part{kind: 9, wrongSum: 5}),
		)
		if i > 0 {
			all = append(all,
				turned("type 1", i, api.ErrFrame, setKind(1)),
				inserted("a second head", i, api.ErrFrame, part{kind: 1, data: []byte{0, 1}}),
				inserted("an early trailer", i, api.ErrTrailer, part{kind: 4, data: make([]byte, 16)}),
				inserted("an empty trailer", i, api.ErrTrailer, part{kind: 4}),
			)
		}
		if i > 3 {
			all = append(all, inserted("a late node", i, api.ErrFrame, part{kind: 2, data: nodeBytes(api.Node{Id: 9})}))
		}
	}
	return all
}

// orderFaults are those of the order and number of frames, and of their versions and trailers.
func orderFaults() []fault {
	return []fault{
		{"wrong letters", lettersPlace, api.ErrMagic, func(r *raw) { r.letters = "SATCHEL2" }},
		{"small letters", lettersPlace, api.ErrMagic, func(r *raw) { r.letters = "sATCHEL1" }},
		{"a letter too many", lettersPlace, api.ErrMagic, func(r *raw) { r.letters = "SSATCHEL1" }},
		{"seven letters", lettersPlace - 1, api.ErrShort, func(r *raw) { r.length = 7 }},
		{"only the letters", lettersPlace, api.ErrShort, func(r *raw) { r.length = 8 }},
		turned("a head of type 2", 0, api.ErrFrame, setKind(2)),
		turned("a head of type 3", 0, api.ErrFrame, setKind(3)),
		turned("a head of type 4", 0, api.ErrFrame, setKind(4)),
		inserted("a node ahead of the head", 0, api.ErrFrame, part{kind: 2, data: nodeBytes(api.Node{})}),
		inserted("a trailer ahead of the head", 0, api.ErrFrame, part{kind: 4, data: trailBytes(api.Graph{}, []byte("SATCHEL1"))}),
		turned("version 2", 0, api.ErrVersion, setData(0, 2)),
		turned("version 0", 0, api.ErrVersion, setData(0, 0)),
		turned("version 257", 0, api.ErrVersion, setData(1, 1)),
		turned("a short version", 0, api.ErrVersion, setData(1)),
		turned("no version", 0, api.ErrVersion, setData()),
		turned("a long version", 0, api.ErrVersion, setData(0, 1, 0)),
		turned("a version in four bytes", 0, api.ErrVersion, setData(0, 0, 0, 1)),
		turned("a node of type 3", 1, api.ErrRecord, setKind(3)),
		turned("a relationship of type 2", 3, api.ErrRecord, setKind(2)),
		turned("a node of type 4", 2, api.ErrTrailer, setKind(4)),
		turned("a second relationship of type 2", 4, api.ErrFrame, setKind(2)),
		turned("a trailer of type 2", trailPlace, api.ErrFrame, setKind(2)),
		turned("a trailer of type 3", trailPlace, api.ErrRecord, setKind(3)),
		inserted("a relationship more than in the trailer", trailPlace, api.ErrTrailer, part{kind: 3, data: relBytes(api.Rel{Id: 9, Type: "T", From: 3, To: 3})}),
		{"a node more than in the trailer", trailPlace, api.ErrTrailer, func(r *raw) { r.more[2] = append(r.more[2], part{kind: 2, data: nodeBytes(api.Node{Id: 2})}) }},
	}
}

// trailFaults are those of the trailer, and of what follows it.
func trailFaults() []fault {
	var all []fault
	of := func(what string, turn func([]byte) []byte) {
		all = append(all, fault{what, trailPlace, api.ErrTrailer, func(r *raw) { r.trail = turn }})
	}
	for i := range 16 {
		for _, by := range []byte{1, 128} {
			of("a wrong trailer", func(b []byte) []byte {
				b[i] ^= by
				return b
			})
		}
		of("a short trailer", func(b []byte) []byte { return b[:i] })
	}
	of("a long trailer", func(b []byte) []byte { return append(b, 0) })
	of("a trailer of two", func(b []byte) []byte { return append(b, b...) })
	for what, tail := range map[string][]byte{
		"a byte": {0}, "letters": []byte("SATCHEL1"), "a frame": part{kind: 5}.bytes(), "a head": part{kind: 1, data: []byte{0, 1}}.bytes(),
		"a node": part{kind: 2, data: nodeBytes(api.Node{Id: 5})}.bytes(), "a trailer": part{kind: 4, data: make([]byte, 16)}.bytes(),
		"a long frame": {1, 255, 255, 255, 255}, "a wrong checksum": part{kind: 2, wrongSum: 1}.bytes(), "an incomplete frame": {2, 0, 0, 0, 100, 1, 2, 3},
	} {
		all = append(all, fault{what + " behind the trailer", tailPlace, api.ErrTail, func(r *raw) { r.tail = tail }})
	}
	return all
}

// recordFaults are those of the data of nodes and relationships.
func recordFaults() []fault {
	return []fault{
		turned("an empty node", 1, api.ErrRecord, setData()),
		turned("a node with only an id", 1, api.ErrRecord, setData(0, 0, 0, 1)),
		turned("a node without properties", 1, api.ErrRecord, setData(0, 0, 0, 1, 0)),
		turned("a node with a byte too many", 1, api.ErrRecord, setData(0, 0, 0, 1, 0, 0, 0)),
		turned("a node with a label too few", 1, api.ErrRecord, setData(0, 0, 0, 1, 1)),
		turned("a node with a label that is too short", 1, api.ErrRecord, setData(0, 0, 0, 1, 1, 2, 65)),
		changed("a node with a great number of labels", 2, 4, 255),
		changed("a node with a great number of properties", 2, 9, 255),
		changed("a node with a property too many", 2, 9, 1),
		changed("a node with a property too few", 2, 9, 3),
		changed("a node with a label too many", 2, 4, 1),
		changed("a label that is too long", 2, 5, 200),
		changed("a key that is too long", 2, 10, 200),
		changed("a value that is too long", 2, 12, 1),
		turned("a value with a byte too few", 1, api.ErrRecord, setData(0, 0, 0, 1, 0, 1, 1, 107, 0, 1, 1)),
		turned("a value with a byte too many", 1, api.ErrRecord, setData(0, 0, 0, 1, 0, 1, 1, 107, 0, 3, 1, 1, 0)),
		turned("a value without bytes", 1, api.ErrRecord, setData(0, 0, 0, 1, 0, 1, 1, 107, 0, 0)),
		turned("a value of kind 0", 1, api.ErrRecord, setData(0, 0, 0, 1, 0, 1, 1, 107, 0, 2, 0, 1)),
		turned("a value of kind 9", 1, api.ErrRecord, setData(0, 0, 0, 1, 0, 1, 1, 107, 0, 2, 9, 1)),
		turned("a bool 2", 1, api.ErrRecord, setData(0, 0, 0, 1, 0, 1, 1, 107, 0, 2, 1, 2)),
		turned("a list that is too long", 1, api.ErrRecord, setData(append([]byte{0, 0, 0, 1, 0, 1, 1, 107, 0, 43, 5, 41}, make([]byte, 41)...)...)),
		turned("another form of NaN", 1, api.ErrRecord, setData(0, 0, 0, 1, 0, 1, 1, 107, 0, 9, 3, 0x7f, 0xf0, 0, 0, 0, 0, 0, 1)),
		turned("a wrong value ahead of a right one", 1, api.ErrRecord, setData(0, 0, 0, 1, 0, 2, 1, 107, 0, 2, 1, 2, 1, 108, 0, 2, 1, 1)),
		turned("a wrong value behind a right one", 1, api.ErrRecord, setData(0, 0, 0, 1, 0, 2, 1, 107, 0, 2, 1, 1, 1, 108, 0, 2, 1, 2)),
		turned("an empty relationship", 3, api.ErrRecord, setData()),
		turned("a relationship without a type", 3, api.ErrRecord, setData(0, 0, 0, 0, 0, 0, 0, 3, 0, 0, 0, 3)),
		turned("a relationship without properties", 3, api.ErrRecord, setData(0, 0, 0, 0, 0, 0, 0, 3, 0, 0, 0, 3, 1, 84)),
		turned("a relationship with a byte too many", 3, api.ErrRecord, setData(0, 0, 0, 0, 0, 0, 0, 3, 0, 0, 0, 3, 1, 84, 0, 0)),
		changed("a type that is too long", 3, 12, 255),
		turned("a relationship with a bool 2", 4, api.ErrRecord, func(p *part) { p.data[len(p.data)-1] = 2 }),
		changed("a relationship with a property too many", 4, 14, 0),
	}
}

// graphFaults are those of graphs that an archive can hold, but that aren't valid.
func graphFaults() []fault {
	labels := strings.Split("A B C D E F G H I", " ")
	return []fault{
		ofGraph("a great id of a node", api.ErrNodeId, func(g *api.Graph) { g.Nodes[1].Id = 1024 }),
		ofGraph("the greatest id of a node", api.ErrNodeId, func(g *api.Graph) { g.Nodes[1].Id = 1<<32 - 1 }),
		ofGraph("one id of two nodes", api.ErrOrder, func(g *api.Graph) { g.Nodes[0].Id = 3 }),
		ofGraph("nine labels", api.ErrLabels, func(g *api.Graph) { g.Nodes[0].Labels = labels }),
		ofGraph("255 labels", api.ErrLabels, func(g *api.Graph) { g.Nodes[0].Labels = slices.Repeat(labels, 29)[:255] }),
		ofGraph("an empty label", api.ErrName, func(g *api.Graph) { g.Nodes[1].Labels[0] = "" }),
		ofGraph("a long label", api.ErrName, func(g *api.Graph) { g.Nodes[1].Labels[0] = strings.Repeat("A", 41) }),
		ofGraph("the longest label", api.ErrName, func(g *api.Graph) { g.Nodes[1].Labels[0] = strings.Repeat("A", 255) }),
		ofGraph("labels out of order", api.ErrOrder, func(g *api.Graph) { g.Nodes[1].Labels[0] = "C" }),
		ofGraph("a key with a wrong byte", api.ErrName, func(g *api.Graph) { g.Nodes[1].Props[0].Key = "a b" }),
		ofGraph("keys out of order", api.ErrOrder, func(g *api.Graph) { g.Nodes[1].Props[1].Key = "a" }),
		ofGraph("17 properties", api.ErrProps, func(g *api.Graph) { g.Nodes[0].Props = slices.Repeat(g.Nodes[0].Props, 17) }),
		ofGraph("255 properties", api.ErrProps, func(g *api.Graph) { g.Nodes[0].Props = slices.Repeat(g.Nodes[0].Props, 255) }),
		ofGraph("a great id of a relationship", api.ErrRelId, func(g *api.Graph) { g.Rels[1].Id = 2048 }),
		ofGraph("the greatest id of a relationship", api.ErrRelId, func(g *api.Graph) { g.Rels[0].Id = 1<<32 - 1 }),
		ofGraph("one id of two relationships", api.ErrOrder, func(g *api.Graph) { g.Rels[1].Id = 0 }),
		ofGraph("an empty type", api.ErrName, func(g *api.Graph) { g.Rels[0].Type = "" }),
		ofGraph("a type with a digit", api.ErrName, func(g *api.Graph) { g.Rels[0].Type = "1" }),
		ofGraph("no start", api.ErrEnd, func(g *api.Graph) { g.Rels[0].From = 2 }),
		ofGraph("no end", api.ErrEnd, func(g *api.Graph) { g.Rels[0].To = 1<<32 - 2 }),
		ofGraph("too great a weight", api.ErrWeight, func(g *api.Graph) {
			g.Nodes[0].Props = nil
			for k := range 7 {
				g.Nodes[0].Props = append(g.Nodes[0].Props, prop("k"+string(rune('a'+k)), api.Value{Kind: api.KindTexts, Texts: slices.Repeat([]string{strings.Repeat("x", 1000)}, 40)}))
			}
		}),
	}
}

// P20.3, P20.4: each fault alone, and each pair of them.
func TestFaults(t *testing.T) {
	b := newRaw().bytes()
	if e := wantRead(t, b); e != api.OK || !bytes.Equal(b, written(sample())) {
		t.Fatalf("without a fault: %v", e)
	}
	all := slices.Concat(orderFaults(), frameFaults(), trailFaults(), recordFaults(), graphFaults())
	for i, x := range all {
		r := newRaw()
		x.turn(r)
		b := r.bytes()
		if e := wantRead(t, b); e != x.want {
			t.Errorf("%s in frame %d: %v, want %v", x.what, x.place, e, x.want)
		}
		if len(b) < 1000 {
			wantFed(t, single(b)...)
		}
		for _, y := range all[:i] {
			r := newRaw()
			x.turn(r)
			y.turn(r)
			e := wantAnswer(t, r.bytes())
			first := x
			if y.place < x.place {
				first = y
			}
			if x.place != y.place && e != first.want {
				t.Errorf("%s in frame %d, and %s in frame %d: %v, want %v", x.what, x.place, y.what, y.place, e, first.want)
			}
		}
	}
}

// greatNode are the data of a node with so many bytes, of which each value is valid; its names aren't.
func greatNode(size int) []byte {
	b := make([]byte, 4+1+1)
	list := append([]byte{8, 40}, bytes.Repeat(append(num(2, 1000), bytes.Repeat([]byte("x"), 1000)...), 40)...)
	add := func(v []byte) {
		b = slices.Concat(b, nameBytes("k"), num(2, len(v)), v)
		b[5]++
	}
	for size-len(b) > 45000 {
		add(list)
	}
	for len(b) < size {
		n := min(size-len(b), 1007)
		if size-len(b) < 1007+7 && size-len(b) > 1007 {
			n = 500
		}
		add(append([]byte{4}, append(num(2, n-7), bytes.Repeat([]byte("y"), n-7)...)...))
	}
	return b
}

// greatest are the letters and frames of nodes, with so many bytes altogether.
func greatest(size int) ([]byte, api.Graph) {
	b := append([]byte("SATCHEL1"), part{kind: 1, data: []byte{0, 1}}.bytes()...)
	var parts []part
	for len(b) < size {
		n := min(size-len(b)-9, 1048576)
		parts = append(parts, part{kind: 2, data: greatNode(n)})
		b = append(b, parts[len(parts)-1].bytes()...)
	}
	return b, graphOf(parts)
}

// P20.3, P20.4: an archive of MaxFile bytes, and one byte more.
func TestMaxFile(t *testing.T) {
	const most = 16777216
	open, _ := greatest(most)
	if len(open) != most {
		t.Fatalf("%d bytes", len(open))
	}
	ahead, g := greatest(most - 25)
	closed := append(ahead, part{kind: 4, data: trailBytes(g, ahead)}.bytes()...)
	zeros := make([]byte, most)
	for _, c := range []struct {
		what  string
		b     []byte
		fed   api.Errno
		graph api.Errno
	}{
		{"without an end", open, api.OK, api.ErrShort},
		{"with an end", closed, api.OK, api.ErrProps},
		{"wrong", zeros, api.ErrMagic, api.ErrMagic},
		{"wrong within", slices.Concat(open[:most/2], zeros[:most/2]), api.ErrSum, api.ErrSum},
	} {
		r := archive.NewReader()
		e := r.Feed(c.b[:most/2])
		if last := r.Feed(c.b[most/2:]); last != c.fed || e != api.OK && e != last {
			t.Errorf("%s: Feed: %v, then %v, want %v", c.what, e, last, c.fed)
		}
		if _, e := r.Graph(); e != c.graph {
			t.Errorf("%s: Graph: %v, want %v", c.what, e, c.graph)
		}
		if e := r.Feed(nil); e != c.fed {
			t.Errorf("%s: Feed of nothing: %v", c.what, e)
		}
		want := api.ErrLong
		if c.fed != api.OK {
			want = c.fed
		}
		if e := r.Feed([]byte{0}); e != want {
			t.Errorf("%s: Feed of one byte more: %v, want %v", c.what, e, want)
		}
		if _, e := archive.Read(c.b); e != c.graph {
			t.Errorf("%s: Read: %v, want %v", c.what, e, c.graph)
		}
		long := append(c.b[:most:most], 0)
		if g, e := archive.Read(long); e != api.ErrLong || !isEmpty(g) {
			t.Errorf("%s, one byte more: Read: %v", c.what, e)
		}
		wantFed(t, long)
	}
	wantFed(t, written(sample()), zeros)
	wantFed(t, written(sample()), zeros[:1], zeros)
	wantFed(t, []byte("satchel1"), zeros)
	wantFed(t, []byte("SATCHEL"), zeros)
}

// P20.3: a frame of MaxFrame bytes is read.
func TestMaxFrame(t *testing.T) {
	for _, size := range []int{1048575, 1048576} {
		b := append([]byte("SATCHEL1"), part{kind: 1, data: []byte{0, 1}}.bytes()...)
		b = append(b, part{kind: 2, data: greatNode(size)}.bytes()...)
		if e := wantRead(t, b); e != api.ErrShort {
			t.Errorf("a node of %d bytes: %v", size, e)
		}
		g := graphOf([]part{{kind: 2, data: greatNode(size)}})
		if e := wantRead(t, append(b, part{kind: 4, data: trailBytes(g, b)}.bytes()...)); e != api.ErrProps {
			t.Errorf("a node of %d bytes, with an end: %v", size, e)
		}
	}
}
