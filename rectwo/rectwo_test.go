package rectwo_test

import (
	"bytes"
	"encoding/binary"
	"math"
	"math/rand"
	"reflect"
	"slices"
	"testing"

	"satchel/api"
	"satchel/rectwo"
)

// edges are numbers at which a field of some limit and width could go wrong.
var edges = []int{
	math.MinInt, math.MinInt + 1, -1 << 32, -1<<32 - 1, -65536, -256, -3, -2, -1, 0, 1, 2, 3, 199, 200, 201, 254, 255, 256, 257,
	1023, 1024, 1025, 2047, 2048, 2049, 65534, 65535, 65536, 65537, 1<<31 - 1, 1 << 31, 1<<32 - 2, 1<<32 - 1, 1 << 32, 1<<32 + 1, math.MaxInt - 1, math.MaxInt,
}

func isPointer(limit int, ids ...int) bool {
	return slices.Min(ids) >= -1 && slices.Max(ids) < limit
}

func isToken(n int) bool {
	return n >= 0 && n < 200
}

func isEnd(n int) bool {
	return n >= 0 && n < 1024
}

// num and ptr are the document's numbers, and pointers as bytes, written down independently of the program.
func num(b []byte, width, n int) []byte {
	return append(b, binary.BigEndian.AppendUint64(nil, uint64(n))[8-width:]...)
}

func ptr(b []byte, id int) []byte {
	return num(b, 4, id+1)
}

func endAt(b []byte, at int) int {
	return int(binary.BigEndian.Uint32(b[at:]))
}

func pointerAt(b []byte, at int) int {
	return endAt(b, at) - 1
}

func tokenAt(b []byte, at int) int {
	return int(binary.BigEndian.Uint16(b[at:]))
}

// shape is a kind of record: the program's functions, and the document's words on it.
type shape[T any] struct {
	size  int
	put   func(T) ([]byte, api.Errno)
	get   func([]byte) (T, api.Errno)
	valid func(T) bool
	bytes func(T) []byte // of a valid record
	read  func([]byte) T // of bytes that some valid record may have
}

var nodes = shape[api.NodeTwo]{
	size: 65,
	put:  rectwo.PutNode,
	get:  rectwo.GetNode,
	valid: func(n api.NodeTwo) bool {
		first := 2048
		if n.Dense {
			first = 65536
		}
		good := isPointer(first, n.First) && isPointer(65536, n.Over) && len(n.Labels) < 9 && len(n.Slots) == 48
		for i, label := range n.Labels {
			good = good && isToken(label) && (i == 0 || n.Labels[i-1] < label)
		}
		return good
	},
	bytes: func(n api.NodeTwo) []byte {
		b := []byte{0}
		if n.Dense {
			b[0]++
		}
		b = ptr(ptr(b, n.First), n.Over)
		for _, label := range n.Labels {
			b = append(b, byte(label+1))
		}
		b = append(b, make([]byte, 8-len(n.Labels))...)
		return append(b, n.Slots...)
	},
	read: func(b []byte) api.NodeTwo {
		n := api.NodeTwo{Dense: b[0] == 1, First: pointerAt(b, 1), Over: pointerAt(b, 5), Slots: bytes.Clone(b[17:])}
		for _, c := range b[9:17] {
			if c > 0 {
				n.Labels = append(n.Labels, int(c)-1)
			}
		}
		return n
	},
}

var rels = shape[api.RelTwo]{
	size: 62,
	put:  rectwo.PutRel,
	get:  rectwo.GetRel,
	valid: func(r api.RelTwo) bool {
		return isEnd(r.From) && isEnd(r.To) && isToken(r.Type) && isPointer(65536, r.Over) && len(r.Slots) == 32 &&
			isPointer(2048, r.FromPrev, r.FromNext, r.ToPrev, r.ToNext)
	},
	bytes: func(r api.RelTwo) []byte {
		b := num(num(num(nil, 4, r.From), 4, r.To), 2, r.Type)
		for _, id := range []int{r.FromPrev, r.FromNext, r.ToPrev, r.ToNext, r.Over} {
			b = ptr(b, id)
		}
		return append(b, r.Slots...)
	},
	read: func(b []byte) api.RelTwo {
		return api.RelTwo{
			Link: api.Link{
				Live: true, From: endAt(b, 0), To: endAt(b, 4),
				FromPrev: pointerAt(b, 10), FromNext: pointerAt(b, 14), ToPrev: pointerAt(b, 18), ToNext: pointerAt(b, 22),
			},
			Type: tokenAt(b, 8), Over: pointerAt(b, 26), Slots: bytes.Clone(b[30:]),
		}
	},
}

var groups = shape[api.Group]{
	size: 22,
	put:  rectwo.PutGroup,
	get:  rectwo.GetGroup,
	valid: func(g api.Group) bool {
		return isToken(g.Type) && isEnd(g.Owner) && isPointer(2048, g.Out, g.In, g.Loop) && isPointer(65536, g.Next)
	},
	bytes: func(g api.Group) []byte {
		b := num(num(nil, 2, g.Type), 4, g.Owner)
		for _, id := range []int{g.Out, g.In, g.Loop, g.Next} {
			b = ptr(b, id)
		}
		return b
	},
	read: func(b []byte) api.Group {
		return api.Group{
			Live: true, Type: tokenAt(b, 0), Owner: endAt(b, 2),
			Out: pointerAt(b, 6), In: pointerAt(b, 10), Loop: pointerAt(b, 14), Next: pointerAt(b, 18),
		}
	},
}

// plain gives a record without empty lists that aren't nil, for reflect.DeepEqual.
func plain[T any](record T) any {
	switch r := any(record).(type) {
	case api.NodeTwo:
		r.Labels, r.Slots = append([]int(nil), r.Labels...), append([]byte(nil), r.Slots...)
		return r
	case api.RelTwo:
		r.Slots = append([]byte(nil), r.Slots...)
		return r
	}
	return record
}

// wantPut puts a record, and gets it again if it is valid.
func (s shape[T]) wantPut(t *testing.T, record T) {
	t.Helper()
	before := plain(record)
	b, e := s.put(record)
	if !reflect.DeepEqual(plain(record), before) {
		t.Fatalf("Put changed %+v to %+v", before, record)
	}
	if !s.valid(record) {
		if e != api.ErrField || len(b) > 0 {
			t.Fatalf("Put(%+v) = %v, %v, want ErrField", record, b, e)
		}
		return
	}
	if want := s.bytes(record); e != api.OK || !bytes.Equal(b, want) || len(b) != s.size {
		t.Fatalf("Put(%+v) = %v, %v, want %v", record, b, e, want)
	}
	s.wantGet(t, b)
}

// wantGet gets the record that b is: there is one if b are the bytes of the valid record that the document's layout finds in b.
func (s shape[T]) wantGet(t *testing.T, b []byte) {
	t.Helper()
	var want T
	wrong := api.ErrSize
	if len(b) == s.size {
		want, wrong = s.read(b), api.OK
		if !s.valid(want) || !bytes.Equal(s.bytes(want), b) {
			var none T
			want, wrong = none, api.ErrField
		}
	}
	got, e := s.get(b)
	if e != wrong || !reflect.DeepEqual(plain(got), plain(want)) {
		t.Fatalf("Get(%v) = %+v, %v, want %+v, %v", b, got, e, want, wrong)
	}
}

// wantAllGets changes each byte of b to every other, cuts b and makes it longer.
func (s shape[T]) wantAllGets(t *testing.T, b []byte) {
	t.Helper()
	for i := range b {
		for c := range 256 {
			d := slices.Clone(b)
			d[i] = byte(c)
			s.wantGet(t, d)
		}
	}
	for n := range len(b) {
		s.wantGet(t, b[:n])
		s.wantGet(t, b[n:])
	}
	for _, n := range []int{1, 2, 3, 22, 62, 65, 255, 256, 4096, 65536} {
		s.wantGet(t, append(slices.Clone(b), make([]byte, n)...))
		s.wantGet(t, bytes.Repeat([]byte{255}, n))
	}
}

// wantRandomGets sets some of the first bytes to numbers among which many are right.
func (s shape[T]) wantRandomGets(t *testing.T, b []byte, first int) {
	t.Helper()
	r := rand.New(rand.NewSource(15))
	for range 50000 {
		d := slices.Clone(b)
		for range 1 + r.Intn(3) {
			d[r.Intn(first)] = []byte{0, 1, 2, 3, 4, 7, 8, 9, 199, 200, 201, 255}[r.Intn(12)]
		}
		s.wantGet(t, d)
	}
}

// wantFields sets each field of a valid record, and each two of them, to the edges.
func (s shape[T]) wantFields(t *testing.T, record T, setters []func(*T, int)) {
	t.Helper()
	s.wantPut(t, record)
	for i, set := range setters {
		for _, other := range setters[i:] {
			for _, a := range edges {
				for _, b := range edges {
					changed := record
					set(&changed, a)
					other(&changed, b)
					s.wantPut(t, changed)
				}
			}
		}
	}
}

// count gives n bytes that differ from their neighbours.
func count(n int) []byte {
	b := make([]byte, n)
	for i := range b {
		b[i] = byte(i + 100)
	}
	return b
}

// P15.3, P15.1: the document's examples

func TestExamples(t *testing.T) {
	g := api.Group{Type: 3, Owner: 1, Out: 7, In: -1, Loop: 0, Next: -1}
	if b, e := rectwo.PutGroup(g); e != api.OK || !bytes.Equal(b, []byte{0, 3, 0, 0, 0, 1, 0, 0, 0, 8, 0, 0, 0, 0, 0, 0, 0, 1, 0, 0, 0, 0}) {
		t.Errorf("PutGroup: %v, %v", b, e)
	}
	n := api.NodeTwo{Dense: true, First: 2048, Over: -1, Slots: make([]byte, 48)}
	if b, e := rectwo.PutNode(n); e != api.OK || !bytes.Equal(b, append([]byte{1, 0, 0, 8, 1}, make([]byte, 60)...)) {
		t.Errorf("PutNode of a dense node: %v, %v", b, e)
	}
	n.Dense = false
	if b, e := rectwo.PutNode(n); e != api.ErrField || len(b) > 0 {
		t.Errorf("PutNode of a node that isn't dense: %v, %v", b, e)
	}
}

// P15.1

func TestNodes(t *testing.T) {
	for _, dense := range []bool{false, true} {
		nodes.wantFields(t, api.NodeTwo{Dense: dense, First: 258, Over: 772, Labels: []int{3, 199}, Slots: count(48)}, []func(*api.NodeTwo, int){
			func(n *api.NodeTwo, x int) { n.First = x },
			func(n *api.NodeTwo, x int) { n.Over = x },
			func(n *api.NodeTwo, x int) { n.Labels = []int{x} },
		})
	}
}

func TestLabels(t *testing.T) {
	most := []int{0, 1, 2, 100, 196, 197, 198, 199}
	lists := [][]int{nil, {}, most, append(slices.Clone(most), 200), append([]int{-1}, most...), make([]int, 8), make([]int, 1000), {199, 0}, {0, 1, 2, 3, 4, 5, 6, 7, 8}, {0, 1, 2, 3, 4, 5, 6, 7, -1}}
	for _, a := range edges {
		lists = append(lists, append(slices.Clone(most[:7]), a))
		for _, b := range edges {
			lists = append(lists, []int{a, b}, []int{1, a, b}, []int{a, b, 199}, []int{a, 5, b})
		}
	}
	for _, list := range lists {
		for _, dense := range []bool{false, true} {
			nodes.wantPut(t, api.NodeTwo{Dense: dense, First: 7, Over: 8, Labels: list, Slots: count(48)})
		}
	}
}

func TestGetNode(t *testing.T) {
	for _, head := range [][]byte{
		make([]byte, 17),
		{1, 0, 0, 8, 1, 0, 0, 0, 1, 2, 200, 0, 0, 0, 0, 0, 0},
		{0, 0, 0, 8, 0, 0, 1, 0, 0, 1, 2, 3, 4, 5, 6, 199, 200},
		{1, 0, 1, 0, 0, 0, 0, 255, 255, 10, 20, 30, 0, 0, 0, 0, 0},
		{0, 0, 0, 7, 255, 0, 0, 0, 0, 200, 0, 0, 0, 0, 0, 0, 0},
	} {
		b := append(head, count(48)...)
		nodes.wantAllGets(t, b)
		nodes.wantRandomGets(t, b, 17)
	}
	// All labels that two places may have, at the beginning, in the middle and at the end.
	for _, at := range []int{9, 12, 15} {
		for a := range 256 {
			for c := range 256 {
				b := append([]byte{1, 0, 0, 0, 1, 0, 0, 0, 2, 1, 2, 3, 4, 5, 6, 7, 8}, count(48)...)
				b[at], b[at+1] = byte(a), byte(c)
				clear(b[at+2 : 17])
				nodes.wantGet(t, b)
			}
		}
	}
}

// The limit of First hangs on Dense, also in what is read.
func TestFirst(t *testing.T) {
	for first := range 70000 {
		for dense := range byte(3) {
			b := append(ptr([]byte{dense}, first-1), make([]byte, 60)...)
			n, e := rectwo.GetNode(b)
			good := dense == 0 && first <= 2048 || dense == 1 && first <= 65536
			if good != (e == api.OK) || good && n.First != first-1 || !good && e != api.ErrField {
				t.Fatalf("GetNode of a node with First %d and Dense %d: %+v, %v", first-1, dense, n, e)
			}
		}
	}
}

// P15.2

func TestRels(t *testing.T) {
	r := api.RelTwo{Link: api.Link{From: 258, To: 772, FromPrev: 5, FromNext: 6, ToPrev: 263, ToNext: 8}, Type: 10, Over: 2313, Slots: count(32)}
	rels.wantFields(t, r, []func(*api.RelTwo, int){
		func(r *api.RelTwo, n int) { r.From = n },
		func(r *api.RelTwo, n int) { r.To = n },
		func(r *api.RelTwo, n int) { r.Type = n },
		func(r *api.RelTwo, n int) { r.FromPrev = n },
		func(r *api.RelTwo, n int) { r.FromNext = n },
		func(r *api.RelTwo, n int) { r.ToPrev = n },
		func(r *api.RelTwo, n int) { r.ToNext = n },
		func(r *api.RelTwo, n int) { r.Over = n },
	})
}

func TestGetRel(t *testing.T) {
	for _, head := range [][]byte{
		make([]byte, 30),
		{0, 0, 3, 255, 0, 0, 3, 255, 0, 199, 0, 0, 8, 0, 0, 0, 8, 0, 0, 0, 8, 0, 0, 0, 8, 0, 0, 1, 0, 0},
		{0, 0, 1, 2, 0, 0, 2, 3, 0, 9, 0, 0, 3, 4, 0, 0, 4, 5, 0, 0, 5, 6, 0, 0, 6, 7, 0, 0, 7, 8},
	} {
		b := append(head, count(32)...)
		rels.wantAllGets(t, b)
		rels.wantRandomGets(t, b, 30)
	}
}

// P15.3

func TestGroups(t *testing.T) {
	groups.wantFields(t, api.Group{Type: 10, Owner: 258, Out: 772, In: 5, Loop: 263, Next: 2313}, []func(*api.Group, int){
		func(g *api.Group, n int) { g.Type = n },
		func(g *api.Group, n int) { g.Owner = n },
		func(g *api.Group, n int) { g.Out = n },
		func(g *api.Group, n int) { g.In = n },
		func(g *api.Group, n int) { g.Loop = n },
		func(g *api.Group, n int) { g.Next = n },
	})
}

func TestGetGroup(t *testing.T) {
	for _, b := range [][]byte{
		make([]byte, 22),
		{0, 199, 0, 0, 3, 255, 0, 0, 8, 0, 0, 0, 8, 0, 0, 0, 8, 0, 0, 1, 0, 0},
		{0, 9, 0, 0, 1, 2, 0, 0, 3, 4, 0, 0, 4, 5, 0, 0, 5, 6, 0, 0, 7, 8},
	} {
		groups.wantAllGets(t, b)
		groups.wantRandomGets(t, b, 22)
	}
}

// P15.2, P15.3: Live is not encoded.

func TestLive(t *testing.T) {
	r := api.RelTwo{Link: api.Link{Live: true, From: 3, To: 1023, FromPrev: -1, FromNext: 1, ToPrev: 2047, ToNext: -1}, Type: 5, Slots: count(32)}
	a, e := rectwo.PutRel(r)
	r.Live = false
	b, f := rectwo.PutRel(r)
	if e != api.OK || f != api.OK || !bytes.Equal(a, b) {
		t.Errorf("PutRel: %v, %v, and if it isn't live %v, %v", a, e, b, f)
	}
	if got, e := rectwo.GetRel(a); e != api.OK || !got.Live {
		t.Errorf("GetRel = %+v, %v", got, e)
	}
	g := api.Group{Live: true, Type: 1, Owner: 2, Out: 3, In: 4, Loop: 5, Next: 6}
	a, e = rectwo.PutGroup(g)
	g.Live = false
	b, f = rectwo.PutGroup(g)
	if e != api.OK || f != api.OK || !bytes.Equal(a, b) {
		t.Errorf("PutGroup: %v, %v, and if it isn't live %v, %v", a, e, b, f)
	}
	if got, e := rectwo.GetGroup(a); e != api.OK || !got.Live {
		t.Errorf("GetGroup = %+v, %v", got, e)
	}
}

// P15.1, P15.2: any bytes may stand in slots, but only as many as there are.

func TestSlots(t *testing.T) {
	for n := range 130 {
		nodes.wantPut(t, api.NodeTwo{First: 2047, Over: 65535, Slots: count(n)})
		nodes.wantPut(t, api.NodeTwo{Dense: true, First: 65535, Over: 65535, Labels: []int{0}, Slots: count(n)})
		rels.wantPut(t, api.RelTwo{Over: 65535, Slots: count(n)})
	}
	for c := range 256 {
		nodes.wantPut(t, api.NodeTwo{Slots: bytes.Repeat([]byte{byte(c)}, 48)})
		rels.wantPut(t, api.RelTwo{Slots: bytes.Repeat([]byte{byte(c)}, 32)})
	}
	nodes.wantPut(t, api.NodeTwo{Slots: make([]byte, 70000)})
	rels.wantPut(t, api.RelTwo{Slots: make([]byte, 70000)})
}

// P15.1 to P15.3: a wrong size is told before a wrong field.

func TestSizes(t *testing.T) {
	for n := range 300 {
		for _, c := range []byte{0, 1, 255} {
			b := bytes.Repeat([]byte{c}, n)
			nodes.wantGet(t, b)
			rels.wantGet(t, b)
			groups.wantGet(t, b)
		}
	}
}

// P15.4: results are new memory, and arguments stay as they are.

// spoil overwrites a list and its spare capacity.
func spoil[T any](list []T, with T) {
	list = list[:cap(list)]
	for i := range list {
		list[i] = with
	}
}

// wantNewBytes puts a record twice, and overwrites the first result and then what spoilRecord reaches.
func (s shape[T]) wantNewBytes(t *testing.T, record T, spoilRecord func(T)) {
	t.Helper()
	want := s.bytes(record)
	first, _ := s.put(record)
	second, _ := s.put(record)
	spoil(first, 9)
	spoilRecord(record)
	if !bytes.Equal(second, want) {
		t.Errorf("Put: results share memory with one another or with the argument: %v, want %v", second, want)
	}
}

// wantNewRecord gets the record of b, which is valid, twice, and overwrites the first result and then b.
func (s shape[T]) wantNewRecord(t *testing.T, b []byte, spoilRecord func(T)) {
	t.Helper()
	want := s.read(b)
	arg := append(slices.Clone(b), 77)[:len(b)]
	first, _ := s.get(arg)
	second, _ := s.get(arg)
	spoilRecord(first)
	if !bytes.Equal(arg[:len(b)+1], append(slices.Clone(b), 77)) {
		t.Errorf("Get changed its argument to %v", arg[:len(b)+1])
	}
	spoil(arg, 9)
	if !reflect.DeepEqual(plain(second), plain(want)) {
		t.Errorf("Get: results share memory with one another or with the argument: %+v, want %+v", second, want)
	}
}

func TestMemory(t *testing.T) {
	spoilNode := func(n api.NodeTwo) {
		spoil(n.Labels, 9)
		spoil(n.Slots, 9)
	}
	spoilRel := func(r api.RelTwo) { spoil(r.Slots, 9) }
	n := api.NodeTwo{Dense: true, First: 1, Over: 2, Labels: []int{3, 5}, Slots: count(48)}
	r := api.RelTwo{Link: api.Link{From: 1, To: 2}, Slots: count(32)}
	nodes.wantNewRecord(t, nodes.bytes(n), spoilNode)
	rels.wantNewRecord(t, rels.bytes(r), spoilRel)
	nodes.wantNewBytes(t, n, spoilNode)
	rels.wantNewBytes(t, r, spoilRel)
	groups.wantNewBytes(t, api.Group{Type: 1, Owner: 2, Out: 3}, func(api.Group) {})
}

func TestSpareCapacityStays(t *testing.T) {
	labels, slots := []int{3, 5, 77, 77, 77, 77, 77, 77, 77, 77}, append(count(48), 77, 77)
	n := api.NodeTwo{Dense: true, First: 1, Over: 2, Labels: labels[:2], Slots: slots[:48]}
	r := api.RelTwo{Slots: slots[:32]}
	if _, e := rectwo.PutNode(n); e != api.OK {
		t.Errorf("PutNode: %v", e)
	}
	if _, e := rectwo.PutRel(r); e != api.OK {
		t.Errorf("PutRel: %v", e)
	}
	if !slices.Equal(labels, []int{3, 5, 77, 77, 77, 77, 77, 77, 77, 77}) || !bytes.Equal(slots, append(count(48), 77, 77)) {
		t.Errorf("the argument's spare capacity is now %v and %v", labels, slots)
	}
}
