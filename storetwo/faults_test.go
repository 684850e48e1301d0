package storetwo_test

import (
	"math/rand"
	"slices"
	"strconv"
	"strings"
	"testing"

	"satchel/api"
	"satchel/storetwo"
)

func key(i int) string { return "k" + strconv.Itoa(100+i) }

// sound is a graph of 40 nodes, each with two loops, two labels and two properties: an int, which is inline, and a text outside, in the blocks 2i and 2i + 1. Node i has the relationships 2i and 2i + 1, which have a bool each; the second has a text, too, in the blocks 80 + 2i and 81 + 2i.
//
// Behind them are six pairs of dense nodes. The 65 relationships of pair k, from 80 + 65k on, are 20 from its first node to its second and 15 back, all of type S, and 15 loops of type T at each. Node 40 + i has the groups 2i for S and 2i + 1 for T.
func sound() api.Graph {
	var g api.Graph
	for i := range 40 {
		g.Nodes = append(g.Nodes, api.Node{Id: i, Labels: []string{"A", "B"}, Props: []api.Prop{
			prop(key(i%20), number(int64(i))), prop(key(i%20+1), text(strings.Repeat("x", 24)+key(i))),
		}})
		for k := range 2 {
			props := []api.Prop{prop(key(0), api.Value{Kind: 1, Num: int64(k)}), prop(key(1), texts(28))}
			g.Rels = append(g.Rels, api.Rel{Id: 2*i + k, Type: []string{"S", "T"}[k], From: i, To: i, Props: props[:1+k]})
		}
	}
	for first := 40; first < 52; first += 2 {
		g.Nodes = append(g.Nodes, api.Node{Id: first}, api.Node{Id: first + 1})
		for i := range 65 {
			r := api.Rel{Id: len(g.Rels), Type: "T", From: first + 1, To: first + 1}
			switch {
			case i < 20:
				r.Type, r.From = "S", first
			case i < 35:
				r.Type, r.To = "S", first
			case i < 50:
				r.From, r.To = first, first
			}
			g.Rels = append(g.Rels, r)
		}
	}
	return g
}

// clone gives a copy of a store that can be changed.
func clone(s *raw) *raw {
	c := &raw{meta: slices.Clone(s.meta), parts: map[string]*part{}, last: s.last}
	for name, p := range s.parts {
		x := *p
		x.records, x.tail = make([][]byte, len(p.records)), slices.Clone(p.tail)
		for id, record := range p.records {
			x.records[id] = slices.Clone(record)
		}
		c.parts[name] = &x
	}
	return c
}

// fault is something that is wrong with the store of the graph above.
type fault struct {
	what string
	want api.Errno
	turn func(*raw)
}

// set lays bytes into the contents of a record.
func set(file string, id, at int, b ...byte) func(*raw) {
	return func(s *raw) { copy(s.record(file, id)[at:], b) }
}

// point lays a pointer into the contents of a record.
func point(file string, id, at, to int) func(*raw) {
	return set(file, id, at, ptr(nil, to)...)
}

// all makes several changes.
func all(turns ...func(*raw)) func(*raw) {
	return func(s *raw) {
		for _, turn := range turns {
			turn(s)
		}
	}
}

// The places of fields in the contents of records.
const (
	nodeDense  = 0
	nodeFirst  = 1
	nodeOver   = 5
	nodeLabels = 9
	nodeSlots  = 17
	relFrom    = 0
	relTo      = 4
	relType    = 8
	relPrev    = 10
	relNext    = 14
	relToPrev  = 18
	relToNext  = 22
	relOver    = 26
	relSlots   = 30
	groupType  = 0
	groupOwner = 2
	groupOut   = 6
	groupIn    = 10
	groupLoop  = 14
	groupNext  = 18
	blockData  = 6
)

// headFaults are those of any record file, which layer 9 tells, and those of its kind and version.
func headFaults(name string) []fault {
	in := func(turn func(*part)) func(*raw) {
		return func(s *raw) { turn(s.parts[name]) }
	}
	return []fault{
		{name + " is cut", api.ErrShort, in(func(p *part) { p.length = 15 })},
		{name + " has no magic", api.ErrMagic, in(func(p *part) { p.magic = "SRED" })},
		{name + " has a wrong sum", api.ErrSum, in(func(p *part) { p.wrongSum = 1 })},
		{name + " has a byte too many", api.ErrCount, in(func(p *part) { p.tail = []byte{0} })},
		{name + " has a wrong flag", api.ErrFlag, in(func(p *part) { p.records[0][0] = 2 })},
		{name + " has a free record that isn't zero", api.ErrFree, in(func(p *part) { p.records[1][0], p.records[1][1] = 0, 1 })},
		{name + " is of another kind", api.ErrFile, in(func(p *part) { p.kind = 9 })},
		{name + " has other records", api.ErrFile, in(func(p *part) { p.size++ })},
		{name + " has another version", api.ErrVersion, in(func(p *part) { p.version = 1 })},
	}
}

func tableFaults(name string) []fault {
	return append(headFaults(name),
		fault{name + " has too many names", api.ErrTokens, func(s *raw) { s.parts[name].grow(201) }},
		fault{name + " has a wrong name", api.ErrToken, set(name, 0, 1, '0')},
		fault{name + " has a name twice", api.ErrTwice, func(s *raw) {
			s.parts[name].add(nameRecord("twice"))
			s.parts[name].add(nameRecord("twice"))
		}},
	)
}

// fileFaults are those of the steps 1 to 5, in the order in which they are examined.
func fileFaults() []fault {
	list := []fault{
		{"a file has another name", api.ErrFiles, func(s *raw) {
			s.last = func(files []api.File) []api.File {
				files[7].Name = "type"
				return files
			}
		}},
		{"meta is too long", api.ErrMeta, func(s *raw) { s.meta = append(s.meta, 2) }},
		{"meta begins otherwise", api.ErrMeta, func(s *raw) { s.meta[3] = 'X' }},
		{"meta has no 0", api.ErrMeta, func(s *raw) { s.meta[4] = 2 }},
		{"meta has another version", api.ErrVersion, func(s *raw) { s.meta[5] = 1 }},
	}
	for _, name := range []string{"labels", "types", "keys"} {
		list = append(list, tableFaults(name)...)
	}
	for _, name := range []string{"nodes", "rels", "groups", "blobs"} {
		list = append(list, headFaults(name)...)
	}
	return append(list,
		fault{"a block isn't sound", api.ErrBlock, set("blobs", 3, 0, 2)},
		fault{"a block is in no chain", api.ErrChain, func(s *raw) { s.parts["blobs"].add(blockRecord(0, -1, []byte{1})) }},
		fault{"there are too many nodes", api.ErrNodeId, func(s *raw) { s.parts["nodes"].grow(1025) }},
		fault{"there are too many relationships", api.ErrRelId, func(s *raw) { s.parts["rels"].grow(2049) }},
	)
}

// recordFaults are those of step 6.
func recordFaults() []fault {
	return []fault{
		{"node 3 is neither dense nor not", api.ErrField, set("nodes", 3, nodeDense, 2)},
		{"node 4 has a label without a name", api.ErrToken, set("nodes", 4, nodeLabels+2, 200)},
		{"node 5 has a label twice", api.ErrField, set("nodes", 5, nodeLabels, 2, 2)},
		{"relationship 2 has a type that is none", api.ErrField, set("rels", 2, relType, 0, 200)},
		{"relationship 3 is from no node", api.ErrEnd, set("rels", 3, relFrom, 0, 0, 3, 254)},
		{"relationship 4 has a type without a name", api.ErrToken, set("rels", 4, relType, 0, 2)},
		{"relationship 5 is to no node, with a type without a name", api.ErrEnd, set("rels", 5, relTo, 0, 0, 3, 255, 0, 199)},
		{"relationship 6 is to a node that is none", api.ErrField, set("rels", 6, relTo, 0, 0, 4, 0)},
		{"group 0 has a type that is none", api.ErrField, set("groups", 0, groupType, 0, 200)},
		{"group 1 is no node's", api.ErrEnd, set("groups", 1, groupOwner, 0, 0, 3, 254)},
		{"group 2 has a type without a name", api.ErrToken, set("groups", 2, groupType, 0, 2)},
		{"group 3 is no node's, and has a type without a name", api.ErrEnd, set("groups", 3, groupType, 0, 199, 0, 0, 3, 255)},
		{"group 4 leads to a relationship that is none", api.ErrField, point("groups", 4, groupOut, 2048)},
		{"group 5 is of a node that is none", api.ErrField, set("groups", 5, groupOwner, 0, 0, 4, 0)},
	}
}

// chainFaults are those of step 7 at nodes that aren't dense.
func chainFaults() []fault {
	return []fault{
		{"node 6 says that it's dense", api.ErrDense, set("nodes", 6, nodeDense, 1)},
		{"the chain of node 7 begins nowhere", api.ErrId, point("nodes", 7, nodeFirst, 2047)},
		{"the chain of node 8 is node 9's", api.ErrEnd, point("nodes", 8, nodeFirst, 18)},
		{"the chain of node 9 leads back", api.ErrChain, point("rels", 19, relNext, 18)},
		{"the chain of node 10 goes on nowhere", api.ErrId, point("rels", 21, relNext, 2047)},
		{"node 11 has no chain", api.ErrChain, point("nodes", 11, nodeFirst, -1)},
		{"the chain of node 12 leads to node 13's", api.ErrEnd, point("rels", 25, relNext, 26)},
		{"the chain of node 13 ends early", api.ErrChain, point("rels", 26, relNext, -1)},
		{"the chain of node 14 begins with its second", api.ErrChain, point("nodes", 14, nodeFirst, 29)},
		{"the chain of node 15 begins nowhere", api.ErrId, point("nodes", 15, nodeFirst, 1999)},
		{"a loop of node 16 has a ToPrev", api.ErrChain, point("rels", 32, relToPrev, 32)},
		{"node 17 says that it's dense, with a chain that begins nowhere", api.ErrDense, all(set("nodes", 17, nodeDense, 1), point("nodes", 17, nodeFirst, 60000))},
		{"a loop of node 18 has a ToNext", api.ErrChain, point("rels", 37, relToNext, 36)},
		{"the chain of node 19 begins nowhere", api.ErrId, point("nodes", 19, nodeFirst, 999)},
		{"the second of node 20 has no prev", api.ErrChain, point("rels", 41, relPrev, -1)},
	}
}

// groupFaults are those of step 7 at dense nodes.
func groupFaults() []fault {
	return []fault{
		{"node 40 has groups that aren't there", api.ErrId, point("nodes", 40, nodeFirst, 60000)},
		{"node 41 has node 40's groups", api.ErrGroup, point("nodes", 41, nodeFirst, 0)},
		{"node 42 has no group for one of its types", api.ErrChain, point("nodes", 42, nodeFirst, 5)},
		{"the groups of node 43 are in another order", api.ErrGroup, all(point("nodes", 43, nodeFirst, 7), point("groups", 7, groupNext, 6), point("groups", 6, groupNext, -1))},
		{"a group of node 44 has incoming relationships as outgoing ones", api.ErrGroup, point("groups", 8, groupOut, 80+65*2+20)},
		{"node 45 says that it isn't dense", api.ErrDense, set("nodes", 45, nodeDense, 0)},
		{"a loop of node 46 has no prev", api.ErrChain, point("rels", 80+65*3+36, relPrev, -1)},
		{"a group of node 47 is empty", api.ErrGroup, point("groups", 15, groupLoop, -1)},
		{"a group of node 48 leads nowhere", api.ErrId, point("groups", 16, groupIn, 2047)},
		{"a group of node 49 leads to another node's relationship", api.ErrEnd, point("groups", 18, groupOut, 0)},
		{"a loop of node 50 has another type than its group", api.ErrGroup, set("rels", 80+65*5+36, relType, 0, 0)},
		{"the chain of loops of node 51 ends early", api.ErrChain, point("rels", 80+65*5+63, relNext, -1)},
	}
}

// blobOf turns what stands in a blob of two blocks into other bytes, in these blocks and in new ones.
func blobOf(first int, data []byte) func(*raw) {
	return func(s *raw) {
		p := s.parts["blobs"]
		clear(p.records[first+1])
		ids := []int{first, first + 1}
		for id := len(p.records); 25*len(ids) < len(data); id++ {
			ids = append(ids, id)
		}
		ids = append(ids[:(len(data)+24)/25], -1)
		for i, id := range ids[:len(ids)-1] {
			p.put(id, blockRecord(max(0, 1-i), ids[i+1], data[25*i:min(25*i+25, len(data))]))
		}
	}
}

// bools are properties as they stand outside, with the tokens from a number on.
func bools(from, n int) []byte {
	var b []byte
	for i := range n {
		b = append(b, beside(from+i, yes())...)
	}
	return b
}

// emptyBlob leads an owner to a new blob without bytes.
func emptyBlob(file string, id, at int) func(*raw) {
	return func(s *raw) { point(file, id, at, s.parts["blobs"].add(blockRecord(1, -1, nil)))(s) }
}

// nodeFaults are those of step 8 at nodes.
func nodeFaults() []fault {
	slot := func(token int) []byte { return inside(token, yes()) }
	return []fault{
		{"node 21 has a blob that isn't there", api.ErrId, point("nodes", 21, nodeOver, 60000)},
		{"node 22 has a blob that begins in the middle", api.ErrBlock, point("nodes", 22, nodeOver, 1)},
		{"node 23 has node 20's blob", api.ErrChain, point("nodes", 23, nodeOver, 40)},
		{"node 24 has an empty blob, and wrong slots", api.ErrOver, all(emptyBlob("nodes", 24, nodeOver), set("nodes", 24, nodeSlots, 0, 201))},
		{"node 25 has a key that is none, inside", api.ErrSlots, set("nodes", 25, nodeSlots, 0, 201)},
		{"the blob of node 26 is too short", api.ErrOver, set("blobs", 52, blockData+2, 0, 32)},
		{"node 27 has 17 properties", api.ErrProps, all(
			set("nodes", 27, nodeSlots, slices.Concat(slot(0), slot(1), slot(2), slot(3), slot(4), slot(5))...), blobOf(54, bools(6, 11)))},
		{"node 28 has a key inside and outside", api.ErrShape, set("blobs", 56, blockData, 0, 9)},
		{"node 29 has a key without a name, outside", api.ErrToken, set("blobs", 58, blockData, 0, 200)},
		{"node 30 has a property outside that fits", api.ErrShape, blobOf(60, bools(11, 1))},
		{"node 31 has something behind an int", api.ErrSlots, set("nodes", 31, nodeSlots+15, 1)},
		{"node 32 has a text outside for which there was room", api.ErrShape, set("nodes", 32, nodeSlots, 0, 15)},
		{"node 33 has a value of no kind, inside", api.ErrSlots, set("nodes", 33, nodeSlots+2, 9)},
		{"node 34 has a value of no kind, outside", api.ErrOver, set("blobs", 68, blockData+4, 9)},
		{"node 35 has a key without a name, inside", api.ErrToken, set("nodes", 35, nodeSlots+16, slot(150)...)},
		{"the blob of node 36 has a byte too many", api.ErrOver, set("blobs", 73, 1, 11)},
		{"node 37 has node 35's blob", api.ErrChain, point("nodes", 37, nodeOver, 70)},
		{"node 38 has an int in one slot", api.ErrSlots, set("nodes", 38, nodeSlots, slices.Concat(make([]byte, 8), slot(18))...)},
		{"node 39 has node 38's blob, and wrong slots", api.ErrChain, all(point("nodes", 39, nodeOver, 76), set("nodes", 39, nodeSlots, 0, 201))},
	}
}

// relFaults are those of step 8 at relationships, and those of the steps 9 and 10.
func relFaults() []fault {
	return []fault{
		{"relationship 50 has a key that is none", api.ErrSlots, set("rels", 50, relSlots, 0, 201)},
		{"relationship 51 has a blob that isn't there", api.ErrId, point("rels", 51, relOver, 60000)},
		{"relationship 53 has relationship 49's blob", api.ErrChain, point("rels", 53, relOver, 128)},
		{"relationship 54 has a bool that is none", api.ErrSlots, set("rels", 54, relSlots+3, 2)},
		{"relationship 55 has node 38's blob", api.ErrChain, point("rels", 55, relOver, 76)},
		{"relationship 56 has something behind its properties", api.ErrSlots, set("rels", 56, relSlots+31, 1)},
		{"relationship 57 has an empty blob", api.ErrOver, emptyBlob("rels", 57, relOver)},
		{"relationship 58 has a key without a name", api.ErrToken, set("rels", 58, relSlots, 0, 200)},
		{"relationship 59 has a property outside that fits", api.ErrShape, blobOf(80+58, bools(1, 1))},
		{"relationship 61 has a key outside that is none", api.ErrOver, set("blobs", 80+60, blockData, 0, 0)},
		{"relationship 63 has a blob that begins in the middle", api.ErrBlock, point("rels", 63, relOver, 81)},
		{"relationship 64 has a slot that ends early", api.ErrSlots, set("rels", 64, relSlots+8, 0, 0, 1)},
		{"relationship 67 has a blob of one byte, and wrong slots", api.ErrSlots, all(blobOf(80+66, []byte{0}), set("rels", 67, relSlots, 0, 201))},
		{"relationship 65 has no blob, so that it's nobody's", api.ErrOrphan, point("rels", 65, relOver, -1)},
		{"a group is nobody's", api.ErrOrphan, func(s *raw) {
			s.parts["groups"].add(groupRecord(api.Group{Type: 1, Owner: 40, Out: -1, In: -1, Loop: -1, Next: -1}))
		}},
		{"a group of a node that isn't dense", api.ErrOrphan, func(s *raw) {
			s.parts["groups"].add(groupRecord(api.Group{Type: 0, Owner: 0, Out: -1, In: -1, Loop: 0, Next: -1}))
		}},
		{"a blob is nobody's", api.ErrOrphan, func(s *raw) { s.parts["blobs"].add(blockRecord(1, -1, []byte{1, 1})) }},
		{"the values are too heavy", api.ErrWeight, addWeight},
	}
}

// addWeight adds nodes with 272 texts of 1000 bytes.
func addWeight(s *raw) {
	var data []byte
	for k := range 16 {
		data = append(data, beside(k, texts(1000))...)
	}
	p := s.parts["blobs"]
	for range 17 {
		first := len(p.records)
		for i := 0; i < len(data); i += 25 {
			next := first + i/25 + 1
			if i+25 >= len(data) {
				next = -1
			}
			p.add(blockRecord(max(0, 1-i), next, data[i:min(i+25, len(data))]))
		}
		s.parts["nodes"].add(nodeRecord(api.NodeTwo{First: -1, Over: first}))
	}
}

func allFaults() []fault {
	return slices.Concat(fileFaults(), recordFaults(), chainFaults(), groupFaults(), nodeFaults(), relFaults())
}

// P18.1: each fault by itself.
func TestFaults(t *testing.T) {
	good := write(sound(), nil)
	wantGraph(t, good.files(), sound())
	for _, f := range allFaults() {
		s := clone(good)
		f.turn(s)
		files := s.files()
		wantError(t, f.what, files, f.want)
		if _, e := read(files); e != f.want {
			t.Errorf("%s: the model answers %v, want %v", f.what, e, f.want)
		}
	}
}

// P18.1: of two faults, the one that is examined first is told.
func TestPairsOfFaults(t *testing.T) {
	good := write(sound(), nil)
	list := allFaults()
	for i, first := range list {
		for _, second := range list[i+1:] {
			s := clone(good)
			second.turn(s)
			first.turn(s)
			if g, e := storetwo.Denote(s.files()); e != first.want || !isEmpty(g) {
				t.Errorf("%s, and %s: Denote = %+v, %v, want %v", first.what, second.what, g, e, first.want)
			}
		}
	}
}

// P18.1, step 1: which files there are, and in which order.
func TestFiles(t *testing.T) {
	good := func() []api.File { return write(five(), nil).files() }
	wantError(t, "no files", nil, api.ErrFiles)
	wantError(t, "an empty list", []api.File{}, api.ErrFiles)
	for i := range good() {
		wantError(t, "a file less", slices.Delete(good(), i, i+1), api.ErrFiles)
		wantError(t, "a file twice", slices.Insert(good(), i, good()[i]), api.ErrFiles)
		wantError(t, "a file more", append(good(), api.File{Name: fileNames[i] + "s"}), api.ErrFiles)
		for k := range i {
			files := good()
			files[i], files[k] = files[k], files[i]
			wantError(t, "two files exchanged", files, api.ErrFiles)
			files[i].Name, files[k].Name = files[k].Name, files[i].Name
			if wantRead(t, files) == api.OK {
				t.Errorf("%s with the bytes of %s are a store", fileNames[i], fileNames[k])
			}
		}
		for _, name := range []string{"", "META", fileNames[i] + " ", fileNames[i][1:], "props"} {
			files := good()
			files[i].Name = name
			wantError(t, "a file named "+name, files, api.ErrFiles)
		}
		files := good()
		files[i].Data = nil
		want := api.ErrShort
		if fileNames[i] == "meta" {
			want = api.ErrMeta
		}
		wantError(t, "no bytes of "+fileNames[i], files, want)
	}
}

// P18.1, step 2.
func TestMeta(t *testing.T) {
	for meta, want := range map[string]api.Errno{
		"": api.ErrMeta, "GSTR\x00": api.ErrMeta, "GSTR\x00\x02\x02": api.ErrMeta, "GSTR\x00\x02\x00": api.ErrMeta, "GSTR\x01\x02": api.ErrMeta,
		"GSTR02": api.ErrMeta, "gstr\x00\x02": api.ErrMeta, "SREC\x00\x02": api.ErrMeta, "GSTX\x00\x01": api.ErrMeta,
		"GSTR\x00\x00": api.ErrVersion, "GSTR\x00\x01": api.ErrVersion, "GSTR\x00\x03": api.ErrVersion, "GSTR\x002": api.ErrVersion, "GSTR\x00\xff": api.ErrVersion, "GSTR\x00\x02": api.OK,
	} {
		s := write(five(), nil)
		s.meta = []byte(meta)
		if want == api.OK {
			wantGraph(t, s.files(), five())
		} else {
			wantError(t, strconv.Quote(meta), s.files(), want)
		}
	}
}

// small is a store that has one or two of everything but groups.
func small() *raw {
	return write(api.Graph{
		Nodes: []api.Node{
			{Id: 0, Labels: []string{"A", "B"}, Props: []api.Prop{prop("a", texts(44)), prop("b", number(1)), prop("c", api.Value{Kind: api.KindBools, Nums: []int64{1, 0}})}},
			{Id: 2, Labels: []string{"B"}},
		},
		Rels: []api.Rel{
			{Id: 0, Type: "S", From: 0, To: 2, Props: []api.Prop{prop("a", texts(30))}},
			{Id: 1, Type: "T", From: 2, To: 2, Props: []api.Prop{prop("b", yes())}},
			{Id: 3, Type: "S", From: 2, To: 0},
		},
	}, nil)
}

// others are the bytes that a byte is changed to.
var others = []byte{0, 1, 2, 3, 4, 5, 6, 7, 8, 9, 10, 23, 24, 25, 26, 27, 30, 31, 32, 127, 128, 199, 200, 201, 254, 255}

// P18.1: each byte of each record changed to many others, and each byte of the files changed without a new sum.
func TestBytes(t *testing.T) {
	seen := map[api.Errno]int{}
	for name, p := range small().parts {
		for id, record := range p.records {
			for at := range record {
				for _, c := range others {
					s := small()
					s.parts[name].records[id][at] = c
					seen[wantRead(t, s.files())]++
				}
			}
		}
	}
	for i, f := range small().files() {
		for at := range f.Data {
			for _, c := range []byte{1, 2, 128} {
				files := small().files()
				files[i].Data[at] ^= c
				seen[wantRead(t, files)]++
			}
			files := small().files()
			files[i].Data = files[i].Data[:at]
			seen[wantRead(t, files)]++
		}
	}
	for _, e := range []api.Errno{api.OK, api.ErrId, api.ErrEnd, api.ErrChain, api.ErrToken, api.ErrField, api.ErrOrphan, api.ErrDense, api.ErrSlots, api.ErrOver, api.ErrShape, api.ErrBlock} {
		if seen[e] == 0 {
			t.Errorf("%v was never answered", e)
		}
	}
}

// P18.1: each byte of the groups and nodes of a small store with dense nodes, and of some of its relationships.
func TestBytesOfDenseNodes(t *testing.T) {
	good := write(star(54, 3), nil)
	seen := map[api.Errno]int{}
	for _, name := range []string{"groups", "nodes", "rels"} {
		for id, record := range good.parts[name].records[:min(6, len(good.parts[name].records))] {
			for at := range record[:min(31, len(record))] {
				for _, c := range append([]byte{33, 48, 51, 52, 53, 54, 55}, others...) {
					s := clone(good)
					s.parts[name].records[id][at] = c
					seen[wantRead(t, s.files())]++
				}
			}
		}
	}
	for _, e := range []api.Errno{api.OK, api.ErrId, api.ErrEnd, api.ErrChain, api.ErrToken, api.ErrField, api.ErrDense, api.ErrGroup} {
		if seen[e] == 0 {
			t.Errorf("%v was never answered", e)
		}
	}
}

// lowBytes are the places in records, behind their flags, at which a small number makes a difference.
var lowBytes = map[string][]int{
	"nodes":  {1, 5, 9, 10, 11, 12, 19, 20, 21, 22, 27, 28, 35},
	"rels":   {4, 8, 10, 14, 18, 22, 26, 30, 32, 33, 34, 40},
	"groups": {2, 6, 10, 14, 18, 22},
	"blobs":  {1, 2, 6, 7, 8, 9, 10, 11},
	"labels": {1, 2},
	"types":  {1, 2},
	"keys":   {1, 2},
}

// bend changes one thing of a store, which may leave it valid.
func bend(rng *rand.Rand, s *raw) {
	names := []string{"nodes", "rels", "groups", "blobs", "nodes", "rels", "groups", "blobs", "nodes", "rels", "groups", "blobs", "labels", "types", "keys"}
	name := names[rng.Intn(len(names))]
	p := s.parts[name]
	if len(p.records) == 0 {
		return
	}
	id, other := rng.Intn(len(p.records)), rng.Intn(len(p.records))
	if p.records[id][0] == 0 {
		id = other // a second try to find one in use
	}
	switch rng.Intn(24) {
	case 0:
		p.records[id][rng.Intn(p.size)] = byte(rng.Intn(256))
	case 1:
		clear(p.records[id])
	case 2:
		p.records[id] = slices.Clone(p.records[other])
	case 3:
		p.records[id], p.records[other] = p.records[other], p.records[id]
	case 4:
		p.add(p.records[id][1:])
	case 5:
		p.version = 1
	case 6:
		p.records = p.records[:id]
	default:
		at := lowBytes[name][rng.Intn(len(lowBytes[name]))]
		if p.records[id][0] == 1 && at < len(p.records[id]) {
			p.records[id][at] = byte(rng.Intn(12))
		}
	}
}

// P18.1, P18.5: one to three changes of any store.
func TestRandomFaults(t *testing.T) {
	rng := rand.New(rand.NewSource(3))
	seen := map[api.Errno]int{}
	for i := range 20000 {
		s := write(randomGraph(rng, min(1, i/16000)), rng)
		for range 1 + rng.Intn(3) {
			bend(rng, s)
		}
		seen[wantRead(t, s.files())]++
	}
	for _, e := range []api.Errno{
		api.OK, api.ErrVersion, api.ErrFlag, api.ErrFree, api.ErrToken, api.ErrTwice, api.ErrField, api.ErrEnd, api.ErrId, api.ErrChain,
		api.ErrBlock, api.ErrSlots, api.ErrOver, api.ErrShape, api.ErrOrphan, api.ErrDense, api.ErrGroup,
	} {
		if seen[e] < 20 {
			t.Errorf("%v was answered only %d times", e, seen[e])
		}
	}
	t.Log(seen)
}
