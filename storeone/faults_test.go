package storeone_test

import (
	"math/rand"
	"slices"
	"strconv"
	"strings"
	"testing"

	"satchel/api"
)

func key(i int) string { return "k" + strconv.Itoa(100+i) }

// sound is a graph of 40 nodes, each with two loops, two labels and two properties: an int, and a text of two blocks. Node i has the relationships 2i and 2i + 1, which have a bool each.
func sound() api.Graph {
	var g api.Graph
	for i := range 40 {
		g.Nodes = append(g.Nodes, api.Node{Id: i, Labels: []string{"A", "B"}, Props: []api.Prop{
			prop(key(i%20), number(int64(i))), prop(key(i%20+1), text(strings.Repeat("x", 25)+key(i))),
		}})
		for k := range 2 {
			g.Rels = append(g.Rels, api.Rel{Id: 2*i + k, Type: []string{"S", "T"}[k], From: i, To: i, Props: []api.Prop{prop(key(0), api.Value{Kind: 1, Num: int64(k)})}})
		}
	}
	return g
}

// fault is something that is wrong with the store of the graph above.
type fault struct {
	what string
	want api.Errno
	turn func(*raw)
}

// set lays bytes into the contents of a record.
func set(file string, id, at int, b ...byte) func(*raw) {
	return func(s *raw) { copy(s.record(file, id)[at:], b) }
}

// point lays a pointer into the contents of a record.
func point(file string, id, at, to int) func(*raw) {
	return set(file, id, at, ptr(nil, to)...)
}

// The places of fields in the contents of records.
const (
	nodeRel   = 0
	nodeProp  = 4
	relType   = 8
	relPrev   = 10
	relNext   = 14
	relToPrev = 18
	relToNext = 22
	relProp   = 26
	propKey   = 0
	propKind  = 2
	propNum   = 3
	propBlob  = 7
	propPrev  = 11
	propNext  = 15
)

// headFaults are those of any record file, which layer 9 tells, and those of its kind and version.
func headFaults(name string) []fault {
	in := func(turn func(*part)) func(*raw) {
		return func(s *raw) { turn(s.parts[name]) }
	}
	return []fault{
		{name + " is cut", api.ErrShort, in(func(p *part) { p.length = 15 })},
		{name + " has no magic", api.ErrMagic, in(func(p *part) { p.magic = "SRED" })},
		{name + " has a wrong sum", api.ErrSum, in(func(p *part) { p.wrongSum = 1 })},
		{name + " has a byte too many", api.ErrCount, in(func(p *part) { p.tail = []byte{0} })},
		{name + " has a wrong flag", api.ErrFlag, in(func(p *part) { p.records[0][0] = 2 })},
		{name + " has a free record that isn't zero", api.ErrFree, in(func(p *part) { p.records[1][0], p.records[1][1] = 0, 1 })},
		{name + " is of another kind", api.ErrFile, in(func(p *part) { p.kind = 9 })},
		{name + " has other records", api.ErrFile, in(func(p *part) { p.size++ })},
		{name + " has another version", api.ErrVersion, in(func(p *part) { p.version = 2 })},
	}
}

func tableFaults(name string) []fault {
	return append(headFaults(name),
		fault{name + " has too many names", api.ErrTokens, func(s *raw) { s.parts[name].grow(201) }},
		fault{name + " has a wrong name", api.ErrToken, set(name, 0, 1, '0')},
		fault{name + " has a name twice", api.ErrTwice, func(s *raw) {
			s.parts[name].add(nameRecord("twice"))
			s.parts[name].add(nameRecord("twice"))
		}},
	)
}

// fileFaults are those of the steps 1 to 5, in the order in which they are examined.
func fileFaults() []fault {
	list := []fault{
		{"a file has another name", api.ErrFiles, func(s *raw) {
			s.last = func(files []api.File) []api.File {
				files[7].Name = "type"
				return files
			}
		}},
		{"meta is too long", api.ErrMeta, func(s *raw) { s.meta = append(s.meta, 1) }},
		{"meta begins otherwise", api.ErrMeta, func(s *raw) { s.meta[3] = 'X' }},
		{"meta has no 0", api.ErrMeta, func(s *raw) { s.meta[4] = 1 }},
		{"meta has another version", api.ErrVersion, func(s *raw) { s.meta[5] = 2 }},
	}
	for _, name := range []string{"labels", "types", "keys"} {
		list = append(list, tableFaults(name)...)
	}
	for _, name := range []string{"nodes", "rels", "props", "blobs"} {
		list = append(list, headFaults(name)...)
	}
	return append(list,
		fault{"a block isn't sound", api.ErrBlock, set("blobs", 3, 0, 2)},
		fault{"a block is in no chain", api.ErrChain, func(s *raw) { s.parts["blobs"].add(blockRecord(0, -1, []byte{1})) }},
		fault{"there are too many nodes", api.ErrNodeId, func(s *raw) { s.parts["nodes"].grow(1025) }},
		fault{"there are too many relationships", api.ErrRelId, func(s *raw) { s.parts["rels"].grow(2049) }},
	)
}

// recordFaults are those of step 6.
func recordFaults() []fault {
	return []fault{
		{"node 3 has a wrong field", api.ErrField, set("nodes", 3, 8, 2, 1)},
		{"node 4 has a label without a name", api.ErrToken, set("nodes", 4, 10, 200)},
		{"node 5 has a wrong field", api.ErrField, set("nodes", 5, 8, 2, 2)},
		{"relationship 2 has a type that is none", api.ErrField, set("rels", 2, relType, 0, 200)},
		{"relationship 3 is from no node", api.ErrEnd, set("rels", 3, 0, 0, 0, 3, 254)},
		{"relationship 4 has a type without a name", api.ErrToken, set("rels", 4, relType, 0, 2)},
		{"relationship 5 is to no node, with a type without a name", api.ErrEnd, set("rels", 5, 4, 0, 0, 3, 255, 0, 199)},
		{"relationship 6 is to a node that is none", api.ErrField, set("rels", 6, 4, 0, 0, 4, 0)},
		{"property 5 has a wrong kind", api.ErrField, set("props", 5, propKind, 9)},
		{"property 6 has a key without a name", api.ErrToken, set("props", 6, propKey, 0, 199)},
		{"property 7 has a wrong pointer", api.ErrField, set("props", 7, propPrev, 0, 1, 0, 1)},
	}
}

// chainFaults are those of step 7.
func chainFaults() []fault {
	return []fault{
		{"the chain of node 7 begins nowhere", api.ErrId, point("nodes", 7, nodeRel, 80)},
		{"the chain of node 8 is node 9's", api.ErrEnd, point("nodes", 8, nodeRel, 18)},
		{"the chain of node 9 leads back", api.ErrChain, point("rels", 19, relNext, 18)},
		{"the chain of node 10 goes on nowhere", api.ErrId, point("rels", 21, relNext, 2047)},
		{"node 11 has no chain", api.ErrChain, point("nodes", 11, nodeRel, -1)},
		{"the chain of node 12 leads to node 13's", api.ErrEnd, point("rels", 25, relNext, 26)},
		{"the chain of node 13 ends early", api.ErrChain, point("rels", 26, relNext, -1)},
		{"the chain of node 14 begins with its second", api.ErrChain, point("nodes", 14, nodeRel, 29)},
		{"the chain of node 15 begins nowhere", api.ErrId, point("nodes", 15, nodeRel, 99)},
		{"a loop of node 16 has a ToPrev", api.ErrChain, point("rels", 32, relToPrev, 32)},
		{"the chain of node 17 begins nowhere", api.ErrId, point("nodes", 17, nodeRel, 99)},
		{"a loop of node 18 has a ToNext", api.ErrChain, point("rels", 37, relToNext, 36)},
		{"the chain of node 19 begins nowhere", api.ErrId, point("nodes", 19, nodeRel, 99)},
		{"the second of node 20 has no prev", api.ErrChain, point("rels", 41, relPrev, -1)},
	}
}

// lengthen gives a node more properties, so that they are n with the two that it has. The last one leads to next.
func lengthen(node, n, next int) func(*raw) {
	return func(s *raw) {
		last := 2*node + 1
		for i := range n - 2 {
			id := s.parts["props"].add(propRecord(api.PropOne{Key: (node%20 + 2 + i) % 21, Kind: 2, Blob: -1, Prev: last, Next: next}))
			point("props", last, propNext, id)(s)
			last = id
		}
	}
}

// blobOf turns the text of a node into other bytes, in the two blocks that it has.
func blobOf(node int, data []byte) func(*raw) {
	return func(s *raw) {
		s.parts["blobs"].put(2*node, blockRecord(1, 2*node+1, data[:25]))
		s.parts["blobs"].put(2*node+1, blockRecord(0, -1, data[25:]))
	}
}

// textOf is a text of a length that its bytes need not have.
func textOf(length, bytes int) []byte {
	return append(num([]byte{4}, 2, length), make([]byte, bytes)...)
}

// nodeFaults are those of step 8 at nodes, of which node i has the properties 2i and 2i + 1.
func nodeFaults() []fault {
	return []fault{
		{"node 21 has 17 properties", api.ErrProps, lengthen(21, 17, -1)},
		{"node 22 has 16 properties, and one that isn't there", api.ErrProps, lengthen(22, 16, 65535)},
		{"node 23 has properties that aren't there", api.ErrId, point("nodes", 23, nodeProp, 60000)},
		{"node 24 has node 20's properties", api.ErrChain, point("nodes", 24, nodeProp, 40)},
		{"a property of node 24 isn't there", api.ErrId, point("props", 49, propNext, 60000)},
		{"the first property of node 25 has a prev", api.ErrChain, point("props", 50, propPrev, 49)},
		{"node 26 has a key twice", api.ErrTwice, set("props", 53, propKey, 0, 6)},
		{"the second property of node 27 has no prev", api.ErrChain, point("props", 55, propPrev, -1)},
		{"node 28 has a bool that is none", api.ErrBool, func(s *raw) {
			set("props", 56, propKind, 1)(s)
			set("props", 56, propNum+7, 2)(s)
		}},
		{"the properties of node 29 lead back", api.ErrChain, point("props", 59, propNext, 58)},
		{"node 30 has a NaN in another form", api.ErrNaN, set("props", 60, propKind, 3, 0xff, 0xf8, 0, 0, 0, 0, 0, 0)},
		{"node 31 has a blob that isn't there", api.ErrId, point("props", 63, propBlob, 60000)},
		{"node 32 has a blob that begins in the middle", api.ErrBlock, point("props", 65, propBlob, 1)},
		{"node 33 has node 20's blob", api.ErrChain, point("props", 67, propBlob, 40)},
		{"the text of node 34 is too short", api.ErrShort, blobOf(34, textOf(29, 28))},
		{"node 35 has node 34's blob, and a bool that is none", api.ErrBool, func(s *raw) {
			set("props", 70, propKind, 1, 0, 0, 0, 0, 0, 0, 0, 2)(s)
			point("props", 71, propBlob, 68)(s)
		}},
		{"the text of node 36 is too long", api.ErrTail, blobOf(36, textOf(27, 28))},
		{"the value of node 37 is of another kind", api.ErrKind, set("props", 75, propKind, 8)},
		{"the text of node 38 is beyond the limit", api.ErrText, blobOf(38, textOf(1001, 28))},
		{"node 39 has a value of no kind", api.ErrKind, set("blobs", 78, 6, 9)},
	}
}

// relFaults are those of step 8 at relationships, of which number i has the property 80 + i, and those of the steps 9 and 10.
func relFaults() []fault {
	return []fault{
		{"relationship 50 has properties that aren't there", api.ErrId, point("rels", 50, relProp, 60000)},
		{"relationship 51 has relationship 49's property", api.ErrChain, point("rels", 51, relProp, 129)},
		{"the property of relationship 52 goes on nowhere", api.ErrId, point("props", 132, propNext, 60000)},
		{"relationship 53 has node 39's property", api.ErrChain, point("rels", 53, relProp, 78)},
		{"relationship 54 has a bool that is none", api.ErrBool, set("props", 134, propNum+7, 3)},
		{"the property of relationship 55 has a prev", api.ErrChain, point("props", 135, propPrev, 134)},
		{"relationship 56 has a negative bool", api.ErrBool, set("props", 136, propNum, 128)},
		{"relationship 57 has no property, so that it's nobody's", api.ErrOrphan, point("rels", 57, relProp, -1)},
		{"a property is nobody's", api.ErrOrphan, func(s *raw) {
			s.parts["props"].add(propRecord(api.PropOne{Kind: 2, Blob: -1, Prev: -1, Next: -1}))
		}},
		{"a blob is nobody's", api.ErrOrphan, func(s *raw) { s.parts["blobs"].add(blockRecord(1, -1, []byte{1, 1})) }},
		{"the values are too heavy", api.ErrWeight, addWeight},
	}
}

// addWeight adds nodes with 272 texts of 1000 bytes.
func addWeight(s *raw) {
	data := append(num([]byte{4}, 2, 1000), make([]byte, 1000)...)
	for range 17 {
		first := len(s.parts["props"].records)
		for k := range 16 {
			p := api.PropOne{Key: k, Kind: 4, Prev: first + k - 1, Next: first + k + 1, Blob: len(s.parts["blobs"].records)}
			if k == 0 {
				p.Prev = -1
			}
			if k == 15 {
				p.Next = -1
			}
			for i := 0; i < len(data); i += 25 {
				start, next := min(1, i), p.Blob+i/25+1
				if next*25 >= p.Blob*25+len(data) {
					next = -1
				}
				s.parts["blobs"].add(blockRecord(1-start, next, data[i:min(i+25, len(data))]))
			}
			s.parts["props"].add(propRecord(p))
		}
		s.parts["nodes"].add(nodeRecord(-1, first))
	}
}

func allFaults() []fault {
	return slices.Concat(fileFaults(), recordFaults(), chainFaults(), nodeFaults(), relFaults())
}

// P14.1: each fault by itself.
func TestFaults(t *testing.T) {
	wantGraph(t, write(sound(), nil).files(), sound())
	for _, f := range allFaults() {
		s := write(sound(), nil)
		f.turn(s)
		files := s.files()
		wantError(t, f.what, files, f.want)
		if _, e := read(files); e != f.want {
			t.Errorf("%s: the model answers %v, want %v", f.what, e, f.want)
		}
	}
}

// P14.1: of two faults, the one that is examined first is told.
func TestPairsOfFaults(t *testing.T) {
	list := allFaults()
	for i, first := range list {
		for _, second := range list[i+1:] {
			s := write(sound(), nil)
			second.turn(s)
			first.turn(s)
			wantError(t, first.what+", and "+second.what, s.files(), first.want)
		}
	}
}

// P14.1, step 1: which files there are, and in which order.
func TestFiles(t *testing.T) {
	good := func() []api.File { return write(hi(), nil).files() }
	wantError(t, "no files", nil, api.ErrFiles)
	wantError(t, "an empty list", []api.File{}, api.ErrFiles)
	for i := range good() {
		wantError(t, "a file less", slices.Delete(good(), i, i+1), api.ErrFiles)
		wantError(t, "a file twice", slices.Insert(good(), i, good()[i]), api.ErrFiles)
		wantError(t, "a file more", append(good(), api.File{Name: fileNames[i] + "s"}), api.ErrFiles)
		for k := range i {
			files := good()
			files[i], files[k] = files[k], files[i]
			wantError(t, "two files exchanged", files, api.ErrFiles)
			files[i].Name, files[k].Name = files[k].Name, files[i].Name
			if wantRead(t, files) == api.OK {
				t.Errorf("%s with the bytes of %s are a store", fileNames[i], fileNames[k])
			}
		}
		for _, name := range []string{"", "META", fileNames[i] + " ", fileNames[i][1:], "groups"} {
			files := good()
			files[i].Name = name
			wantError(t, "a file named "+name, files, api.ErrFiles)
		}
		files := good()
		files[i].Data = nil
		want := api.ErrShort
		if fileNames[i] == "meta" {
			want = api.ErrMeta
		}
		wantError(t, "no bytes of "+fileNames[i], files, want)
	}
}

// P14.1, step 2.
func TestMeta(t *testing.T) {
	for meta, want := range map[string]api.Errno{
		"": api.ErrMeta, "GSTR\x00": api.ErrMeta, "GSTR\x00\x01\x01": api.ErrMeta, "GSTR\x00\x01\x00": api.ErrMeta, "GSTR\x01\x01": api.ErrMeta,
		"GSTR01": api.ErrMeta, "gstr\x00\x01": api.ErrMeta, "SREC\x00\x01": api.ErrMeta, "GSTX\x00\x02": api.ErrMeta,
		"GSTR\x00\x00": api.ErrVersion, "GSTR\x00\x02": api.ErrVersion, "GSTR\x001": api.ErrVersion, "GSTR\x00\xff": api.ErrVersion, "GSTR\x00\x01": api.OK,
	} {
		s := write(hi(), nil)
		s.meta = []byte(meta)
		if want == api.OK {
			wantGraph(t, s.files(), hi())
		} else {
			wantError(t, strconv.Quote(meta), s.files(), want)
		}
	}
}

// small is a store that has one or two of everything.
func small() *raw {
	g := api.Graph{
		Nodes: []api.Node{
			{Id: 0, Labels: []string{"A", "B"}, Props: []api.Prop{prop("a", text(strings.Repeat("x", 30))), prop("b", number(1))}},
			{Id: 2, Labels: []string{"B"}},
		},
		Rels: []api.Rel{
			{Id: 0, Type: "S", From: 0, To: 2, Props: []api.Prop{prop("a", api.Value{Kind: api.KindBools, Nums: []int64{1, 0}})}},
			{Id: 1, Type: "T", From: 2, To: 2, Props: []api.Prop{prop("b", api.Value{Kind: api.KindBool, Num: 1})}},
			{Id: 3, Type: "S", From: 2, To: 0},
		},
	}
	return write(g, nil)
}

// P14.1: each byte of each record changed to many others, and each byte of the files changed without a new sum.
func TestBytes(t *testing.T) {
	others := []byte{0, 1, 2, 3, 4, 5, 6, 7, 8, 9, 10, 23, 24, 25, 26, 27, 30, 127, 128, 199, 200, 201, 254, 255}
	seen := map[api.Errno]int{}
	for name, p := range small().parts {
		for id, record := range p.records {
			for at := range record {
				for _, c := range others {
					s := small()
					s.parts[name].records[id][at] = c
					seen[wantRead(t, s.files())]++
				}
			}
		}
	}
	for i, f := range small().files() {
		for at := range f.Data {
			for _, c := range []byte{1, 2, 128} {
				files := small().files()
				files[i].Data[at] ^= c
				seen[wantRead(t, files)]++
			}
			files := small().files()
			files[i].Data = files[i].Data[:at]
			seen[wantRead(t, files)]++
		}
	}
	for _, e := range []api.Errno{api.OK, api.ErrId, api.ErrEnd, api.ErrChain, api.ErrTwice, api.ErrToken, api.ErrField, api.ErrOrphan, api.ErrKind, api.ErrBool} {
		if seen[e] == 0 {
			t.Errorf("%v was never answered", e)
		}
	}
}

// lowBytes are the places in records, behind their flags, at which a small number makes a difference.
var lowBytes = map[string][]int{
	"nodes":  {4, 8, 9, 10, 11},
	"rels":   {4, 8, 10, 14, 18, 22, 26, 30},
	"props":  {2, 3, 7, 11, 15, 19},
	"blobs":  {1, 2, 6, 7, 8, 9},
	"labels": {1, 2},
	"types":  {1, 2},
	"keys":   {1, 2},
}

// bend changes one thing of a store, which may leave it valid.
func bend(rng *rand.Rand, s *raw) {
	names := []string{"nodes", "rels", "props", "blobs", "nodes", "rels", "props", "blobs", "nodes", "rels", "props", "blobs", "labels", "types", "keys"}
	name := names[rng.Intn(len(names))]
	p := s.parts[name]
	if len(p.records) == 0 {
		return
	}
	id, other := rng.Intn(len(p.records)), rng.Intn(len(p.records))
	if p.records[id][0] == 0 {
		id = other // a second try to find one in use
	}
	switch rng.Intn(24) {
	case 0:
		p.records[id][rng.Intn(p.size)] = byte(rng.Intn(256))
	case 1:
		clear(p.records[id])
	case 2:
		p.records[id] = slices.Clone(p.records[other])
	case 3:
		p.records[id], p.records[other] = p.records[other], p.records[id]
	case 4:
		p.add(p.records[id][1:])
	case 5:
		p.version = 2
	case 6:
		p.records = p.records[:id]
	default:
		at := lowBytes[name][rng.Intn(len(lowBytes[name]))]
		if p.records[id][0] == 1 {
			p.records[id][at] = byte(rng.Intn(12))
		}
	}
}

// P14.1: one to three changes of any store.
func TestRandomFaults(t *testing.T) {
	rng := rand.New(rand.NewSource(3))
	seen := map[api.Errno]int{}
	for range 20000 {
		s := write(randomGraph(rng), rng)
		for range 1 + rng.Intn(3) {
			bend(rng, s)
		}
		seen[wantRead(t, s.files())]++
	}
	for _, e := range []api.Errno{api.OK, api.ErrVersion, api.ErrFlag, api.ErrFree, api.ErrToken, api.ErrTwice, api.ErrField, api.ErrEnd, api.ErrId, api.ErrChain, api.ErrBlock, api.ErrBool, api.ErrKind, api.ErrShort, api.ErrTail, api.ErrOrphan} {
		if seen[e] < 20 {
			t.Errorf("%v was answered only %d times", e, seen[e])
		}
	}
	t.Log(seen)
}
