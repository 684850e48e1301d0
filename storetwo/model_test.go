package storetwo_test

import (
	"encoding/binary"
	"hash/crc32"
	"maps"
	"math/rand"
	"slices"
	"strconv"

	"satchel/api"
	"satchel/blocks"
	"satchel/graph"
	"satchel/groups"
	"satchel/links"
	"satchel/recfile"
	"satchel/rectwo"
	"satchel/slots"
	"satchel/tokens"
)

// fileNames are the eight files in their order.
var fileNames = []string{"blobs", "groups", "keys", "labels", "meta", "nodes", "rels", "types"}

// raw is a store in its parts, which can be changed one by one.
type raw struct {
	meta  []byte
	parts map[string]*part
	last  func([]api.File) []api.File // changes the files themselves
}

// part is a record file. Its records have their flags.
type part struct {
	magic               string
	kind, version, size int
	records             [][]byte
	wrongSum            uint32
	tail                []byte
	length              int // how many bytes of the file there are, if it isn't 0
}

func newRaw() *raw {
	return &raw{
		meta: []byte("GSTR\x00\x02"),
		parts: map[string]*part{
			"labels": newPart(1, 42), "types": newPart(2, 42), "keys": newPart(3, 42),
			"nodes": newPart(4, 66), "rels": newPart(5, 63), "groups": newPart(7, 23), "blobs": newPart(8, 32),
		},
		last: func(files []api.File) []api.File { return files },
	}
}

func newPart(kind, size int) *part {
	return &part{magic: "SREC", kind: kind, version: 2, size: size}
}

// bytes puts the file together, with a checksum that is not the program's.
func (p *part) bytes() []byte {
	b := append([]byte(p.magic), byte(p.kind), byte(p.version))
	b = binary.BigEndian.AppendUint16(b, uint16(p.size))
	b = binary.BigEndian.AppendUint32(b, uint32(len(p.records)))
	b = binary.BigEndian.AppendUint32(b, crc32.ChecksumIEEE(b)^p.wrongSum)
	for _, record := range p.records {
		fit := make([]byte, p.size)
		copy(fit, record)
		b = append(b, fit...)
	}
	b = append(b, p.tail...)
	if p.length > 0 {
		b = b[:p.length]
	}
	return b
}

func (s *raw) files() []api.File {
	var files []api.File
	for _, name := range fileNames {
		data := slices.Clone(s.meta)
		if p := s.parts[name]; p != nil {
			data = p.bytes()
		}
		files = append(files, api.File{Name: name, Data: data})
	}
	return s.last(files)
}

// record is where the contents of a record stand, to be changed.
func (s *raw) record(file string, id int) []byte {
	return s.parts[file].records[id][1:]
}

// grow adds records that are not in use.
func (p *part) grow(count int) {
	for len(p.records) < count {
		p.records = append(p.records, make([]byte, p.size))
	}
}

// put lays contents into a record, and takes it into use.
func (p *part) put(id int, contents []byte) {
	p.grow(id + 1)
	p.records[id] = append([]byte{1}, contents...)
}

// add puts one more record.
func (p *part) add(contents []byte) int {
	p.put(len(p.records), contents)
	return len(p.records) - 1
}

// num and ptr are the document's numbers and pointers as bytes.
func num(b []byte, width, n int) []byte {
	return append(b, binary.BigEndian.AppendUint64(nil, uint64(n))[8-width:]...)
}

func ptr(b []byte, id int) []byte {
	return num(b, 4, id+1)
}

// padded gives bytes and zeros behind them.
func padded(b []byte, size int) []byte {
	return append(slices.Clone(b), make([]byte, size-len(b))...)
}

func nameRecord(name string) []byte {
	return padded(append([]byte{byte(len(name))}, name...), 41)
}

func nodeRecord(n api.NodeTwo) []byte {
	dense := byte(0)
	if n.Dense {
		dense = 1
	}
	var labels []byte
	for _, label := range n.Labels {
		labels = append(labels, byte(label+1))
	}
	return slices.Concat(ptr(ptr([]byte{dense}, n.First), n.Over), padded(labels, 8), padded(n.Slots, 48))
}

func relRecord(r api.RelTwo) []byte {
	b := num(num(num(nil, 4, r.From), 4, r.To), 2, r.Type)
	return append(ptr(ptr(ptr(ptr(ptr(b, r.FromPrev), r.FromNext), r.ToPrev), r.ToNext), r.Over), padded(r.Slots, 32)...)
}

func groupRecord(g api.Group) []byte {
	return ptr(ptr(ptr(ptr(num(num(nil, 2, g.Type), 4, g.Owner), g.Out), g.In), g.Loop), g.Next)
}

func blockRecord(start, next int, data []byte) []byte {
	return padded(append(ptr([]byte{byte(start), byte(len(data))}, next), data...), 31)
}

// valueBytes is a valid value as bytes.
func valueBytes(v api.Value) []byte {
	text := func(b []byte, s string) []byte { return append(num(b, 2, len(s)), s...) }
	number := func(b []byte, kind int, n int64) []byte {
		if kind == 1 {
			return append(b, byte(n))
		}
		return num(b, 8, int(n))
	}
	b := []byte{byte(v.Kind)}
	switch {
	case v.Kind < 4:
		return number(b, v.Kind, v.Num)
	case v.Kind == 4:
		return text(b, v.Text)
	case v.Kind == 8:
		b = append(b, byte(len(v.Texts)))
		for _, s := range v.Texts {
			b = text(b, s)
		}
		return b
	}
	b = append(b, byte(len(v.Nums)))
	for _, n := range v.Nums {
		b = number(b, v.Kind-4, n)
	}
	return b
}

// beside is a property as it stands outside.
func beside(key int, v api.Value) []byte {
	data := valueBytes(v)
	return append(num(num(nil, 2, key+1), 2, len(data)), data...)
}

// inside is a property as it stands in slots.
func inside(key int, v api.Value) []byte {
	b := append(num(nil, 2, key+1), valueBytes(v)...)
	return padded(b, (len(b)+7)/8*8)
}

// writer makes a store of a graph: the one of P18.2 if it has no rng, and otherwise any that is valid.
type writer struct {
	*raw
	g        api.Graph
	rng      *rand.Rand
	numbers  map[string]map[string]int // of the names, by table
	groupIds []int                     // those not taken yet
	blockIds []int
	touching map[int][]int // the relationships of the nodes
	chained  map[int]*api.RelTwo
}

func write(g api.Graph, rng *rand.Rand) *raw {
	w := &writer{raw: newRaw(), g: g, rng: rng, numbers: map[string]map[string]int{}, touching: map[int][]int{}, chained: map[int]*api.RelTwo{}}
	w.writeTables()
	w.readRels()
	w.takeRoom()
	for _, n := range g.Nodes {
		x := api.NodeTwo{Dense: len(w.touching[n.Id]) >= 50}
		for _, label := range n.Labels {
			x.Labels = append(x.Labels, w.numbers["labels"][label])
		}
		slices.Sort(x.Labels)
		if x.Dense {
			x.First = w.writeGroups(n.Id)
		} else {
			x.First = w.chain(n.Id, w.touching[n.Id])
		}
		x.Slots, x.Over = w.writeProps(n.Props, 6)
		w.parts["nodes"].put(n.Id, nodeRecord(x))
	}
	for _, r := range g.Rels {
		x := w.chained[r.Id]
		x.Slots, x.Over = w.writeProps(r.Props, 4)
		w.parts["rels"].put(r.Id, relRecord(*x))
	}
	w.addSpare("nodes", 1024)
	w.addSpare("rels", 2048)
	return w.raw
}

// places gives ids for n records, of which the file has count.
func (w *writer) places(n, limit int) (ids []int, count int) {
	if w.rng == nil {
		for id := range n {
			ids = append(ids, id)
		}
		return ids, n
	}
	count = min(limit, n+w.rng.Intn(4))
	return w.rng.Perm(count)[:n], count
}

// addSpare adds records that are not in use behind the others.
func (w *writer) addSpare(file string, limit int) {
	if w.rng != nil {
		p := w.parts[file]
		p.grow(min(limit, len(p.records)+w.rng.Intn(3)))
	}
}

// shuffled puts the elements of a list into another order.
func shuffled[T any](rng *rand.Rand, list []T) []T {
	list = slices.Clone(list)
	if rng != nil {
		rng.Shuffle(len(list), func(i, k int) { list[i], list[k] = list[k], list[i] })
	}
	return list
}

func (w *writer) writeTables() {
	names := map[string]map[string]struct{}{"labels": {}, "types": {}, "keys": {}}
	props := func(list []api.Prop) {
		for _, p := range list {
			names["keys"][p.Key] = struct{}{}
		}
	}
	for _, n := range w.g.Nodes {
		for _, label := range n.Labels {
			names["labels"][label] = struct{}{}
		}
		props(n.Props)
	}
	for _, r := range w.g.Rels {
		names["types"][r.Type] = struct{}{}
		props(r.Props)
	}
	for _, file := range []string{"labels", "types", "keys"} {
		if w.rng != nil && w.rng.Intn(2) == 0 && len(names[file]) < 200 {
			names[file]["of_nothing"] = struct{}{}
		}
		w.writeTable(file, slices.Sorted(maps.Keys(names[file])))
	}
}

func (w *writer) writeTable(file string, names []string) {
	ids, count := w.places(len(names), 200)
	w.parts[file].grow(count)
	w.numbers[file] = map[string]int{}
	for i, name := range names {
		w.numbers[file][name] = ids[i]
		w.parts[file].put(ids[i], nameRecord(name))
	}
}

func (w *writer) readRels() {
	for _, r := range w.g.Rels {
		link := api.Link{From: r.From, To: r.To, FromPrev: -1, FromNext: -1, ToPrev: -1, ToNext: -1}
		w.chained[r.Id] = &api.RelTwo{Link: link, Type: w.numbers["types"][r.Type]}
		w.touching[r.From] = append(w.touching[r.From], r.Id)
		if r.To != r.From {
			w.touching[r.To] = append(w.touching[r.To], r.Id)
		}
	}
}

// typesOf are the tokens of the types that a node has, in ascending order.
func (w *writer) typesOf(node int) []int {
	var types []int
	for _, id := range w.touching[node] {
		types = append(types, w.chained[id].Type)
	}
	slices.Sort(types)
	return slices.Compact(types)
}

// takeRoom counts the groups and blocks, and gives them ids.
func (w *writer) takeRoom() {
	groups, blocks := 0, 0
	for _, n := range w.g.Nodes {
		if len(w.touching[n.Id]) >= 50 {
			groups += len(w.typesOf(n.Id))
		}
		_, out := w.pack(n.Props, 6)
		blocks += (len(out) + 24) / 25
	}
	for _, r := range w.g.Rels {
		_, out := w.pack(r.Props, 4)
		blocks += (len(out) + 24) / 25
	}
	var counted int
	w.groupIds, counted = w.places(groups, 65536)
	w.parts["groups"].grow(counted)
	w.blockIds, counted = w.places(blocks, 65536)
	w.parts["blobs"].grow(counted)
}

// chain lays a chain of a node, and returns its head.
func (w *writer) chain(node int, ids []int) int {
	ids = slices.Concat([]int{-1}, shuffled(w.rng, ids), []int{-1})
	for i := 1; i+1 < len(ids); i++ {
		r := w.chained[ids[i]]
		if r.From == node {
			r.FromPrev, r.FromNext = ids[i-1], ids[i+1]
		} else {
			r.ToPrev, r.ToNext = ids[i-1], ids[i+1]
		}
	}
	return ids[1]
}

// writeGroups returns the id of a dense node's first group.
func (w *writer) writeGroups(node int) int {
	types := w.typesOf(node)
	ids := append(slices.Clone(w.groupIds[:len(types)]), -1)
	w.groupIds = w.groupIds[len(types):]
	for i, token := range types {
		var out, in, loop []int
		for _, id := range w.touching[node] {
			r := w.chained[id]
			switch {
			case r.Type != token:
			case r.From == r.To:
				loop = append(loop, id)
			case r.From == node:
				out = append(out, id)
			default:
				in = append(in, id)
			}
		}
		g := api.Group{Type: token, Owner: node, Out: w.chain(node, out), In: w.chain(node, in), Loop: w.chain(node, loop), Next: ids[i+1]}
		w.parts["groups"].put(ids[i], groupRecord(g))
	}
	return ids[0]
}

// pack lays an owner's properties into slots, and beside them, by the document's rule.
func (w *writer) pack(list []api.Prop, room int) (in, out []byte) {
	list = slices.Clone(list)
	number := func(p api.Prop) int { return w.numbers["keys"][p.Key] }
	slices.SortFunc(list, func(a, b api.Prop) int { return number(a) - number(b) })
	for _, p := range list {
		if b := inside(number(p), p.Val); len(in)+len(b) <= 8*room {
			in = append(in, b...)
		} else {
			out = append(out, beside(number(p), p.Val)...)
		}
	}
	return in, out
}

// writeProps gives an owner's slots, and the id of the blob with the other properties.
func (w *writer) writeProps(list []api.Prop, room int) ([]byte, int) {
	in, out := w.pack(list, room)
	if len(out) == 0 {
		return in, -1
	}
	return in, w.writeBlob(out)
}

func (w *writer) writeBlob(data []byte) int {
	n := (len(data) + 24) / 25
	ids := append(slices.Clone(w.blockIds[:n]), -1)
	w.blockIds = w.blockIds[n:]
	for i := range n {
		start := 0
		if i == 0 {
			start = 1
		}
		w.parts["blobs"].put(ids[i], blockRecord(start, ids[i+1], data[25*i:min(25*i+25, len(data))]))
	}
	return ids[0]
}

// reading goes through the document's ten steps, one after another.
type reading struct {
	files  []api.File
	tables map[string]*tokens.Table
	parts  map[string]*recfile.File
	nodes  map[int]api.NodeTwo
	rels   map[int]api.RelTwo
	groups map[int]api.Group
	seen   map[string]int // how often a group or a blob was visited
	g      api.Graph
}

func newReading(files []api.File) *reading {
	return &reading{
		files: files, tables: map[string]*tokens.Table{}, parts: map[string]*recfile.File{}, seen: map[string]int{},
		nodes: map[int]api.NodeTwo{}, rels: map[int]api.RelTwo{}, groups: map[int]api.Group{},
	}
}

// read gives what Denote should.
func read(files []api.File) (api.Graph, api.Errno) {
	m := newReading(files)
	if e := m.all(); e != api.OK {
		return api.Graph{}, e
	}
	return m.g, api.OK
}

func (m *reading) all() api.Errno {
	for _, step := range []func() api.Errno{m.step1, m.step2, m.step3, m.step4, m.step5, m.step6, m.step7, m.step8, m.step9, m.step10} {
		if e := step(); e != api.OK {
			return e
		}
	}
	return api.OK
}

func (m *reading) data(name string) []byte {
	return m.files[slices.Index(fileNames, name)].Data
}

func (m *reading) step1() api.Errno {
	var names []string
	for _, f := range m.files {
		names = append(names, f.Name)
	}
	if !slices.Equal(names, fileNames) {
		return api.ErrFiles
	}
	return api.OK
}

func (m *reading) step2() api.Errno {
	b := string(m.data("meta"))
	switch {
	case len(b) != 6 || b[:5] != "GSTR\x00":
		return api.ErrMeta
	case b[5] != 2:
		return api.ErrVersion
	}
	return api.OK
}

func (m *reading) step3() api.Errno {
	for i, name := range []string{"labels", "types", "keys"} {
		x, e := tokens.Open(m.data(name), i+1, 2)
		if e != api.OK {
			return e
		}
		m.tables[name] = x
	}
	return api.OK
}

func (m *reading) step4() api.Errno {
	for _, c := range []struct {
		name       string
		kind, size int
	}{{"nodes", 4, 66}, {"rels", 5, 63}, {"groups", 7, 23}, {"blobs", 8, 32}} {
		f, e := recfile.Open(m.data(c.name))
		switch {
		case e != api.OK:
			return e
		case f.Kind() != c.kind || f.Size() != c.size:
			return api.ErrFile
		case f.Version() != 2:
			return api.ErrVersion
		}
		m.parts[c.name] = f
	}
	return blocks.Check(m.parts["blobs"])
}

func (m *reading) step5() api.Errno {
	if m.parts["nodes"].Count() > 1024 {
		return api.ErrNodeId
	}
	if m.parts["rels"].Count() > 2048 {
		return api.ErrRelId
	}
	return api.OK
}

// known tells whether all numbers have names.
func (m *reading) known(table string, numbers ...int) bool {
	for _, n := range numbers {
		if _, found := m.tables[table].Name(n); !found {
			return false
		}
	}
	return true
}

// areNodes tells whether all ids are those of nodes in use.
func (m *reading) areNodes(ids ...int) bool {
	for _, id := range ids {
		if _, e := m.parts["nodes"].Get(id); e != api.OK {
			return false
		}
	}
	return true
}

func (m *reading) step6() api.Errno {
	var e api.Errno
	for id, b := range m.parts["nodes"].All() {
		if m.nodes[id], e = rectwo.GetNode(b); e != api.OK {
			return e
		}
		if !m.known("labels", m.nodes[id].Labels...) {
			return api.ErrToken
		}
	}
	for id, b := range m.parts["rels"].All() {
		if m.rels[id], e = rectwo.GetRel(b); e != api.OK {
			return e
		}
		if !m.areNodes(m.rels[id].From, m.rels[id].To) {
			return api.ErrEnd
		}
		if !m.known("types", m.rels[id].Type) {
			return api.ErrToken
		}
	}
	for id, b := range m.parts["groups"].All() {
		if m.groups[id], e = rectwo.GetGroup(b); e != api.OK {
			return e
		}
		if !m.areNodes(m.groups[id].Owner) {
			return api.ErrEnd
		}
		if !m.known("types", m.groups[id].Type) {
			return api.ErrToken
		}
	}
	return api.OK
}

// lists gives what layers 13 and 17 take.
func (m *reading) lists() (rels []api.Link, types []int, all []api.Group) {
	for id := range m.parts["rels"].Count() {
		rels, types = append(rels, m.rels[id].Link), append(types, m.rels[id].Type)
	}
	for id := range m.parts["groups"].Count() {
		all = append(all, m.groups[id])
	}
	return rels, types, all
}

func (m *reading) step7() api.Errno {
	rels, types, all := m.lists()
	for _, node := range slices.Sorted(maps.Keys(m.nodes)) {
		degree := 0
		for _, r := range m.rels {
			if r.From == node || r.To == node {
				degree++
			}
		}
		n := m.nodes[node]
		if n.Dense != (degree >= 50) {
			return api.ErrDense
		}
		if n.Dense {
			if _, e := groups.Read(rels, types, all, node, n.First); e != api.OK {
				return e
			}
			for id := n.First; id != -1; id = all[id].Next {
				m.visit("group", id)
			}
			continue
		}
		ids, e := links.Walk(rels, node, n.First)
		if e != api.OK {
			return e
		}
		if len(ids) != degree {
			return api.ErrChain
		}
	}
	return api.OK
}

// visit counts, and tells whether it's the first time.
func (m *reading) visit(what string, id int) bool {
	m.seen[what+strconv.Itoa(id)]++
	return m.seen[what+strconv.Itoa(id)] == 1
}

func (m *reading) step8() api.Errno {
	var e api.Errno
	for _, id := range slices.Sorted(maps.Keys(m.nodes)) {
		n := api.Node{Id: id}
		for _, label := range m.nodes[id].Labels {
			name, _ := m.tables["labels"].Name(label)
			n.Labels = append(n.Labels, name)
		}
		slices.Sort(n.Labels)
		if n.Props, e = m.owned(m.nodes[id].Slots, m.nodes[id].Over); e != api.OK {
			return e
		}
		m.g.Nodes = append(m.g.Nodes, n)
	}
	for _, id := range slices.Sorted(maps.Keys(m.rels)) {
		r := api.Rel{Id: id, From: m.rels[id].From, To: m.rels[id].To}
		r.Type, _ = m.tables["types"].Name(m.rels[id].Type)
		if r.Props, e = m.owned(m.rels[id].Slots, m.rels[id].Over); e != api.OK {
			return e
		}
		m.g.Rels = append(m.g.Rels, r)
	}
	return api.OK
}

func (m *reading) owned(in []byte, over int) ([]api.Prop, api.Errno) {
	var out []byte
	if over != -1 {
		var e api.Errno
		if out, e = blocks.Load(m.parts["blobs"], over); e != api.OK {
			return nil, e
		}
		if !m.visit("blob", over) {
			return nil, api.ErrChain
		}
		if len(out) == 0 {
			return nil, api.ErrOver
		}
	}
	list, e := slots.Unpack(in, out)
	if e != api.OK {
		return nil, e
	}
	values := map[string]api.Value{}
	for _, p := range list {
		if !m.known("keys", p.Key) {
			return nil, api.ErrToken
		}
		key, _ := m.tables["keys"].Name(p.Key)
		values[key] = p.Val
	}
	var props []api.Prop
	for _, key := range slices.Sorted(maps.Keys(values)) {
		props = append(props, api.Prop{Key: key, Val: values[key]})
	}
	return props, api.OK
}

func (m *reading) step9() api.Errno {
	for id := range m.groups {
		if m.visit("group", id) {
			return api.ErrOrphan
		}
	}
	for id, b := range m.parts["blobs"].All() {
		if b[0] == 1 && m.visit("blob", id) {
			return api.ErrOrphan
		}
	}
	return api.OK
}

func (m *reading) step10() api.Errno {
	e, _ := graph.Check(m.g)
	return e
}
