package storeone_test

import (
	"encoding/binary"
	"hash/crc32"
	"maps"
	"math/rand"
	"slices"
	"strconv"

	"satchel/api"
	"satchel/blocks"
	"satchel/graph"
	"satchel/recfile"
	"satchel/recone"
	"satchel/tokens"
	"satchel/value"
)

// fileNames are the eight files in their order.
var fileNames = []string{"blobs", "keys", "labels", "meta", "nodes", "props", "rels", "types"}

// raw is a store in its parts, which can be changed one by one.
type raw struct {
	meta  []byte
	parts map[string]*part
	last  func([]api.File) []api.File // changes the files themselves
}

// part is a record file. Its records have their flags.
type part struct {
	magic               string
	kind, version, size int
	records             [][]byte
	wrongSum            uint32
	tail                []byte
	length              int // how many bytes of the file there are, if it isn't 0
}

func newRaw() *raw {
	return &raw{
		meta: []byte("GSTR\x00\x01"),
		parts: map[string]*part{
			"labels": newPart(1, 42), "types": newPart(2, 42), "keys": newPart(3, 42),
			"nodes": newPart(4, 17), "rels": newPart(5, 31), "props": newPart(6, 20), "blobs": newPart(8, 32),
		},
		last: func(files []api.File) []api.File { return files },
	}
}

func newPart(kind, size int) *part {
	return &part{magic: "SREC", kind: kind, version: 1, size: size}
}

// bytes puts the file together, with a checksum that is not the program's.
func (p *part) bytes() []byte {
	b := append([]byte(p.magic), byte(p.kind), byte(p.version))
	b = binary.BigEndian.AppendUint16(b, uint16(p.size))
	b = binary.BigEndian.AppendUint32(b, uint32(len(p.records)))
	b = binary.BigEndian.AppendUint32(b, crc32.ChecksumIEEE(b)^p.wrongSum)
	for _, record := range p.records {
		fit := make([]byte, p.size)
		copy(fit, record)
		b = append(b, fit...)
	}
	b = append(b, p.tail...)
	if p.length > 0 {
		b = b[:p.length]
	}
	return b
}

func (s *raw) files() []api.File {
	var files []api.File
	for _, name := range fileNames {
		data := slices.Clone(s.meta)
		if p := s.parts[name]; p != nil {
			data = p.bytes()
		}
		files = append(files, api.File{Name: name, Data: data})
	}
	return s.last(files)
}

// record is where the contents of a record stand, to be changed.
func (s *raw) record(file string, id int) []byte {
	return s.parts[file].records[id][1:]
}

// grow adds records that are not in use.
func (p *part) grow(count int) {
	for len(p.records) < count {
		p.records = append(p.records, make([]byte, p.size))
	}
}

// put lays contents into a record, and takes it into use.
func (p *part) put(id int, contents []byte) {
	p.grow(id + 1)
	p.records[id] = append([]byte{1}, contents...)
}

// add puts one more record.
func (p *part) add(contents []byte) int {
	p.put(len(p.records), contents)
	return len(p.records) - 1
}

// num and ptr are the document's numbers and pointers as bytes.
func num(b []byte, width, n int) []byte {
	return append(b, binary.BigEndian.AppendUint64(nil, uint64(n))[8-width:]...)
}

func ptr(b []byte, id int) []byte {
	return num(b, 4, id+1)
}

func nameRecord(name string) []byte {
	b := make([]byte, 41)
	b[0] = byte(len(name))
	copy(b[1:], name)
	return b
}

func nodeRecord(rel, prop int, labels ...int) []byte {
	b := ptr(ptr(nil, rel), prop)
	for _, label := range labels {
		b = append(b, byte(label+1))
	}
	return append(b, make([]byte, 16-len(b))...)
}

func relRecord(r api.RelOne) []byte {
	b := num(num(num(nil, 4, r.From), 4, r.To), 2, r.Type)
	return ptr(ptr(ptr(ptr(ptr(b, r.FromPrev), r.FromNext), r.ToPrev), r.ToNext), r.Prop)
}

func propRecord(p api.PropOne) []byte {
	b := num(num(nil, 2, p.Key), 1, p.Kind)
	if p.Kind < 4 {
		b = num(b, 8, int(p.Num))
	} else {
		b = ptr(num(b, 4, 0), p.Blob)
	}
	return ptr(ptr(b, p.Prev), p.Next)
}

func blockRecord(start, next int, data []byte) []byte {
	b := ptr([]byte{byte(start), byte(len(data))}, next)
	return append(append(b, data...), make([]byte, 25-len(data))...)
}

// valueBytes is a valid value of a kind that stands in a blob.
func valueBytes(v api.Value) []byte {
	text := func(b []byte, s string) []byte { return append(num(b, 2, len(s)), s...) }
	b := []byte{byte(v.Kind)}
	switch v.Kind {
	case 4:
		return text(b, v.Text)
	case 8:
		b = append(b, byte(len(v.Texts)))
		for _, s := range v.Texts {
			b = text(b, s)
		}
		return b
	}
	b = append(b, byte(len(v.Nums)))
	for _, n := range v.Nums {
		if v.Kind == 5 {
			b = append(b, byte(n))
		} else {
			b = num(b, 8, int(n))
		}
	}
	return b
}

// writer makes a store of a graph: the one of P14.2 if it has no rng, and otherwise any that is valid.
type writer struct {
	*raw
	g        api.Graph
	rng      *rand.Rand
	numbers  map[string]map[string]int // of the names, by table
	propIds  []int                     // those not taken yet
	blockIds []int
	heads    map[int]int
	chained  map[int]*api.RelOne
}

func write(g api.Graph, rng *rand.Rand) *raw {
	w := &writer{raw: newRaw(), g: g, rng: rng, numbers: map[string]map[string]int{}, heads: map[int]int{}, chained: map[int]*api.RelOne{}}
	w.writeTables()
	w.takeRoom()
	w.chain()
	for _, n := range g.Nodes {
		var labels []int
		for _, label := range n.Labels {
			labels = append(labels, w.numbers["labels"][label])
		}
		slices.Sort(labels)
		w.parts["nodes"].put(n.Id, nodeRecord(w.heads[n.Id], w.writeProps(n.Props), labels...))
	}
	for _, r := range g.Rels {
		x := w.chained[r.Id]
		x.Type, x.Prop = w.numbers["types"][r.Type], w.writeProps(r.Props)
		w.parts["rels"].put(r.Id, relRecord(*x))
	}
	w.addSpare("nodes", 1024)
	w.addSpare("rels", 2048)
	return w.raw
}

// places gives ids for n records, of which the file has count.
func (w *writer) places(n, limit int) (ids []int, count int) {
	if w.rng == nil {
		for id := range n {
			ids = append(ids, id)
		}
		return ids, n
	}
	count = min(limit, n+w.rng.Intn(4))
	return w.rng.Perm(count)[:n], count
}

// addSpare adds records that are not in use behind the others.
func (w *writer) addSpare(file string, limit int) {
	if w.rng != nil {
		p := w.parts[file]
		p.grow(min(limit, len(p.records)+w.rng.Intn(3)))
	}
}

// shuffled puts the elements of a list into another order.
func shuffled[T any](rng *rand.Rand, list []T) []T {
	list = slices.Clone(list)
	if rng != nil {
		rng.Shuffle(len(list), func(i, k int) { list[i], list[k] = list[k], list[i] })
	}
	return list
}

func (w *writer) writeTables() {
	names := map[string]map[string]struct{}{"labels": {}, "types": {}, "keys": {}}
	props := func(list []api.Prop) {
		for _, p := range list {
			names["keys"][p.Key] = struct{}{}
		}
	}
	for _, n := range w.g.Nodes {
		for _, label := range n.Labels {
			names["labels"][label] = struct{}{}
		}
		props(n.Props)
	}
	for _, r := range w.g.Rels {
		names["types"][r.Type] = struct{}{}
		props(r.Props)
	}
	for _, file := range []string{"labels", "types", "keys"} {
		if w.rng != nil && w.rng.Intn(2) == 0 && len(names[file]) < 200 {
			names[file]["of_nothing"] = struct{}{}
		}
		w.writeTable(file, slices.Sorted(maps.Keys(names[file])))
	}
}

func (w *writer) writeTable(file string, names []string) {
	ids, count := w.places(len(names), 200)
	w.parts[file].grow(count)
	w.numbers[file] = map[string]int{}
	for i, name := range names {
		w.numbers[file][name] = ids[i]
		w.parts[file].put(ids[i], nameRecord(name))
	}
}

// takeRoom counts the properties and blocks, and gives them ids.
func (w *writer) takeRoom() {
	props, blocks := 0, 0
	count := func(list []api.Prop) {
		for _, p := range list {
			props++
			if p.Val.Kind > 3 {
				blocks += blocksOf(valueBytes(p.Val))
			}
		}
	}
	for _, n := range w.g.Nodes {
		count(n.Props)
	}
	for _, r := range w.g.Rels {
		count(r.Props)
	}
	var counted int
	w.propIds, counted = w.places(props, 65536)
	w.parts["props"].grow(counted)
	w.blockIds, counted = w.places(blocks, 65536)
	w.parts["blobs"].grow(counted)
}

func blocksOf(data []byte) int {
	n := 1
	for 25*n < len(data) {
		n++
	}
	return n
}

// chain lays the chains of all nodes.
func (w *writer) chain() {
	touching := map[int][]int{}
	for _, r := range w.g.Rels {
		w.chained[r.Id] = &api.RelOne{Link: api.Link{From: r.From, To: r.To, FromPrev: -1, FromNext: -1, ToPrev: -1, ToNext: -1}}
		touching[r.From] = append(touching[r.From], r.Id)
		if r.To != r.From {
			touching[r.To] = append(touching[r.To], r.Id)
		}
	}
	for _, n := range w.g.Nodes {
		order := shuffled(w.rng, touching[n.Id])
		w.heads[n.Id] = -1
		for i, id := range order {
			r := w.chained[id]
			prev, next := &r.ToPrev, &r.ToNext
			if r.From == n.Id {
				prev, next = &r.FromPrev, &r.FromNext
			}
			if i == 0 {
				w.heads[n.Id] = id
			} else {
				*prev = order[i-1]
			}
			if i+1 < len(order) {
				*next = order[i+1]
			}
		}
	}
}

// writeProps returns the id of an owner's first property.
func (w *writer) writeProps(list []api.Prop) int {
	ids := w.propIds[:len(list)]
	w.propIds = w.propIds[len(list):]
	list = shuffled(w.rng, list)
	chain := slices.Concat([]int{-1}, ids, []int{-1})
	for i, p := range list {
		x := api.PropOne{Key: w.numbers["keys"][p.Key], Kind: p.Val.Kind, Num: p.Val.Num, Blob: -1, Prev: chain[i], Next: chain[i+2]}
		if x.Kind > 3 {
			x.Blob = w.writeBlob(valueBytes(p.Val))
		}
		w.parts["props"].put(ids[i], propRecord(x))
	}
	return chain[min(1, len(list))]
}

func (w *writer) writeBlob(data []byte) int {
	n := blocksOf(data)
	ids := append(slices.Clone(w.blockIds[:n]), -1)
	w.blockIds = w.blockIds[n:]
	for i := range n {
		start := 0
		if i == 0 {
			start = 1
		}
		w.parts["blobs"].put(ids[i], blockRecord(start, ids[i+1], data[25*i:min(25*i+25, len(data))]))
	}
	return ids[0]
}

// reading goes through the document's ten steps, one after another.
type reading struct {
	files  []api.File
	tables map[string]*tokens.Table
	parts  map[string]*recfile.File
	nodes  map[int]api.NodeOne
	rels   map[int]api.RelOne
	props  map[int]api.PropOne
	seen   map[string]int // how often a property or a blob was visited
	g      api.Graph
}

// read gives what Denote should.
func read(files []api.File) (api.Graph, api.Errno) {
	m := &reading{
		files: files, tables: map[string]*tokens.Table{}, parts: map[string]*recfile.File{}, seen: map[string]int{},
		nodes: map[int]api.NodeOne{}, rels: map[int]api.RelOne{}, props: map[int]api.PropOne{},
	}
	for _, step := range []func() api.Errno{m.step1, m.step2, m.step3, m.step4, m.step5, m.step6, m.step7, m.step8, m.step9, m.step10} {
		if e := step(); e != api.OK {
			return api.Graph{}, e
		}
	}
	return m.g, api.OK
}

func (m *reading) data(name string) []byte {
	return m.files[slices.Index(fileNames, name)].Data
}

func (m *reading) step1() api.Errno {
	var names []string
	for _, f := range m.files {
		names = append(names, f.Name)
	}
	if !slices.Equal(names, fileNames) {
		return api.ErrFiles
	}
	return api.OK
}

func (m *reading) step2() api.Errno {
	b := string(m.data("meta"))
	switch {
	case len(b) != 6 || b[:5] != "GSTR\x00":
		return api.ErrMeta
	case b[5] != 1:
		return api.ErrVersion
	}
	return api.OK
}

func (m *reading) step3() api.Errno {
	for i, name := range []string{"labels", "types", "keys"} {
		x, e := tokens.Open(m.data(name), i+1, 1)
		if e != api.OK {
			return e
		}
		m.tables[name] = x
	}
	return api.OK
}

func (m *reading) step4() api.Errno {
	for _, c := range []struct {
		name       string
		kind, size int
	}{{"nodes", 4, 17}, {"rels", 5, 31}, {"props", 6, 20}, {"blobs", 8, 32}} {
		f, e := recfile.Open(m.data(c.name))
		switch {
		case e != api.OK:
			return e
		case f.Kind() != c.kind || f.Size() != c.size:
			return api.ErrFile
		case f.Version() != 1:
			return api.ErrVersion
		}
		m.parts[c.name] = f
	}
	return blocks.Check(m.parts["blobs"])
}

func (m *reading) step5() api.Errno {
	if m.parts["nodes"].Count() > 1024 {
		return api.ErrNodeId
	}
	if m.parts["rels"].Count() > 2048 {
		return api.ErrRelId
	}
	return api.OK
}

// known tells whether all numbers have names.
func (m *reading) known(table string, numbers ...int) bool {
	for _, n := range numbers {
		if _, found := m.tables[table].Name(n); !found {
			return false
		}
	}
	return true
}

func (m *reading) step6() api.Errno {
	var e api.Errno
	for id, b := range m.parts["nodes"].All() {
		if m.nodes[id], e = recone.GetNode(b); e != api.OK {
			return e
		}
		if !m.known("labels", m.nodes[id].Labels...) {
			return api.ErrToken
		}
	}
	for id, b := range m.parts["rels"].All() {
		if m.rels[id], e = recone.GetRel(b); e != api.OK {
			return e
		}
		for _, end := range []int{m.rels[id].From, m.rels[id].To} {
			if _, e := m.parts["nodes"].Get(end); e != api.OK {
				return api.ErrEnd
			}
		}
		if !m.known("types", m.rels[id].Type) {
			return api.ErrToken
		}
	}
	for id, b := range m.parts["props"].All() {
		if m.props[id], e = recone.GetProp(b); e != api.OK {
			return e
		}
		if !m.known("keys", m.props[id].Key) {
			return api.ErrToken
		}
	}
	return api.OK
}

func (m *reading) step7() api.Errno {
	for _, node := range slices.Sorted(maps.Keys(m.nodes)) {
		touching := map[int]api.RelOne{}
		for id, r := range m.rels {
			if r.From == node || r.To == node {
				touching[id] = r
			}
		}
		previous := -1
		for id := m.nodes[node].Rel; id != -1; {
			r, live := m.rels[id]
			if !live {
				return api.ErrId
			}
			if r.From != node && r.To != node {
				return api.ErrEnd
			}
			prev, next := r.ToPrev, r.ToNext
			if r.From == node {
				prev, next = r.FromPrev, r.FromNext
			}
			if prev != previous || r.From == r.To && (r.ToPrev != -1 || r.ToNext != -1) {
				return api.ErrChain
			}
			delete(touching, id)
			previous, id = id, next
		}
		if len(touching) > 0 {
			return api.ErrChain
		}
	}
	return api.OK
}

func (m *reading) step8() api.Errno {
	var e api.Errno
	for _, id := range slices.Sorted(maps.Keys(m.nodes)) {
		n := api.Node{Id: id}
		for _, label := range m.nodes[id].Labels {
			name, _ := m.tables["labels"].Name(label)
			n.Labels = append(n.Labels, name)
		}
		slices.Sort(n.Labels)
		if n.Props, e = m.owned(m.nodes[id].Prop); e != api.OK {
			return e
		}
		m.g.Nodes = append(m.g.Nodes, n)
	}
	for _, id := range slices.Sorted(maps.Keys(m.rels)) {
		r := api.Rel{Id: id, From: m.rels[id].From, To: m.rels[id].To}
		r.Type, _ = m.tables["types"].Name(m.rels[id].Type)
		if r.Props, e = m.owned(m.rels[id].Prop); e != api.OK {
			return e
		}
		m.g.Rels = append(m.g.Rels, r)
	}
	return api.OK
}

// visit counts, and tells whether it's the first time.
func (m *reading) visit(what string, id int) bool {
	m.seen[what+strconv.Itoa(id)]++
	return m.seen[what+strconv.Itoa(id)] == 1
}

func (m *reading) owned(first int) ([]api.Prop, api.Errno) {
	values := map[string]api.Value{}
	previous := -1
	for id := first; id != -1; {
		p, found := m.props[id]
		key, _ := m.tables["keys"].Name(p.Key)
		_, twice := values[key]
		switch {
		case len(values) == 16:
			return nil, api.ErrProps
		case !found:
			return nil, api.ErrId
		case !m.visit("prop", id) || p.Prev != previous:
			return nil, api.ErrChain
		case twice:
			return nil, api.ErrTwice
		}
		v, e := m.value(p)
		if e != api.OK {
			return nil, e
		}
		values[key] = v
		previous, id = id, p.Next
	}
	var props []api.Prop
	for _, key := range slices.Sorted(maps.Keys(values)) {
		props = append(props, api.Prop{Key: key, Val: values[key]})
	}
	return props, api.OK
}

func (m *reading) value(p api.PropOne) (api.Value, api.Errno) {
	if p.Kind <= 3 {
		v := api.Value{Kind: p.Kind, Num: p.Num}
		return v, value.Check(v)
	}
	b, e := blocks.Load(m.parts["blobs"], p.Blob)
	if e != api.OK {
		return api.Value{}, e
	}
	if !m.visit("blob", p.Blob) {
		return api.Value{}, api.ErrChain
	}
	v, e := value.Decode(b)
	if e == api.OK && v.Kind != p.Kind {
		e = api.ErrKind
	}
	return v, e
}

func (m *reading) step9() api.Errno {
	for id := range m.props {
		if m.visit("prop", id) {
			return api.ErrOrphan
		}
	}
	for id, b := range m.parts["blobs"].All() {
		if b[0] == 1 && m.visit("blob", id) {
			return api.ErrOrphan
		}
	}
	return api.OK
}

func (m *reading) step10() api.Errno {
	e, _ := graph.Check(m.g)
	return e
}
