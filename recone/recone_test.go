package recone_test

import (
	"bytes"
	"encoding/binary"
	"math"
	"math/rand"
	"reflect"
	"slices"
	"testing"

	"satchel/api"
	"satchel/recone"
)

// edges are numbers at which a field of some limit and width could go wrong.
var edges = []int{
	math.MinInt, math.MinInt + 1, -1 << 32, -1<<32 - 1, -65536, -256, -3, -2, -1, 0, 1, 2, 3, 4, 5, 7, 8, 9, 10, 199, 200, 201, 254, 255, 256, 257,
	1023, 1024, 1025, 2047, 2048, 2049, 65534, 65535, 65536, 65537, 1<<31 - 1, 1 << 31, 1<<32 - 2, 1<<32 - 1, 1 << 32, 1<<32 + 1, math.MaxInt - 1, math.MaxInt,
}

func isPointer(limit int, ids ...int) bool {
	return slices.Min(ids) >= -1 && slices.Max(ids) < limit
}

func isToken(n int) bool {
	return n >= 0 && n < 200
}

func isEnd(n int) bool {
	return n >= 0 && n < 1024
}

// num and ptr are the document's numbers, and pointers as bytes, written down independently of the program.
func num(b []byte, width, n int) []byte {
	return append(b, binary.BigEndian.AppendUint64(nil, uint64(n))[8-width:]...)
}

func ptr(b []byte, id int) []byte {
	return num(b, 4, id+1)
}

// shape is a kind of record: the program's functions, and the document's words on it.
type shape[T any] struct {
	size  int
	put   func(T) ([]byte, api.Errno)
	get   func([]byte) (T, api.Errno)
	valid func(T) bool
	bytes func(T) []byte // of a valid record
	read  func([]byte) T // of bytes that some valid record may have
}

var nodes = shape[api.NodeOne]{
	size: 16,
	put:  recone.PutNode,
	get:  recone.GetNode,
	valid: func(n api.NodeOne) bool {
		good := isPointer(2048, n.Rel) && isPointer(65536, n.Prop) && len(n.Labels) < 9
		for i, label := range n.Labels {
			good = good && isToken(label) && (i == 0 || n.Labels[i-1] < label)
		}
		return good
	},
	bytes: func(n api.NodeOne) []byte {
		b := ptr(ptr(nil, n.Rel), n.Prop)
		for _, label := range n.Labels {
			b = append(b, byte(label+1))
		}
		return append(b, make([]byte, 8-len(n.Labels))...)
	},
	read: func(b []byte) api.NodeOne {
		n := api.NodeOne{Rel: pointerAt(b, 0), Prop: pointerAt(b, 4)}
		for _, c := range b[8:] {
			if c > 0 {
				n.Labels = append(n.Labels, int(c)-1)
			}
		}
		return n
	},
}

var rels = shape[api.RelOne]{
	size: 30,
	put:  recone.PutRel,
	get:  recone.GetRel,
	valid: func(r api.RelOne) bool {
		return isEnd(r.From) && isEnd(r.To) && isToken(r.Type) && isPointer(65536, r.Prop) &&
			isPointer(2048, r.FromPrev, r.FromNext, r.ToPrev, r.ToNext)
	},
	bytes: func(r api.RelOne) []byte {
		b := num(num(num(nil, 4, r.From), 4, r.To), 2, r.Type)
		for _, id := range []int{r.FromPrev, r.FromNext, r.ToPrev, r.ToNext, r.Prop} {
			b = ptr(b, id)
		}
		return b
	},
	read: func(b []byte) api.RelOne {
		return api.RelOne{
			Link: api.Link{
				Live: true, From: pointerAt(b, 0) + 1, To: pointerAt(b, 4) + 1,
				FromPrev: pointerAt(b, 10), FromNext: pointerAt(b, 14), ToPrev: pointerAt(b, 18), ToNext: pointerAt(b, 22),
			},
			Type: tokenAt(b, 8), Prop: pointerAt(b, 26),
		}
	},
}

var props = shape[api.PropOne]{
	size: 19,
	put:  recone.PutProp,
	get:  recone.GetProp,
	valid: func(p api.PropOne) bool {
		if !isToken(p.Key) || !isPointer(65536, p.Blob, p.Prev, p.Next) {
			return false
		}
		switch p.Kind {
		case 1, 2, 3:
			return p.Blob == -1
		case 4, 5, 6, 7, 8:
			return p.Blob != -1 && p.Num == 0
		}
		return false
	},
	bytes: func(p api.PropOne) []byte {
		b := num(num(nil, 2, p.Key), 1, p.Kind)
		if p.Kind < 4 {
			b = num(b, 8, int(p.Num))
		} else {
			b = ptr(num(b, 4, 0), p.Blob)
		}
		return ptr(ptr(b, p.Prev), p.Next)
	},
	read: func(b []byte) api.PropOne {
		p := api.PropOne{Key: tokenAt(b, 0), Kind: int(b[2]), Blob: -1, Prev: pointerAt(b, 11), Next: pointerAt(b, 15)}
		if p.Kind < 4 {
			p.Num = int64(binary.BigEndian.Uint64(b[3:]))
		} else {
			p.Blob = pointerAt(b, 7)
		}
		return p
	},
}

func pointerAt(b []byte, at int) int {
	return int(binary.BigEndian.Uint32(b[at:])) - 1
}

func tokenAt(b []byte, at int) int {
	return int(binary.BigEndian.Uint16(b[at:]))
}

// plain gives a node without an empty list that isn't nil, for reflect.DeepEqual.
func plain[T any](record T) any {
	if n, is := any(record).(api.NodeOne); is && len(n.Labels) == 0 {
		n.Labels = nil
		return n
	}
	return record
}

// wantPut puts a record, and gets it again if it is valid.
func (s shape[T]) wantPut(t *testing.T, record T) {
	t.Helper()
	b, e := s.put(record)
	if !s.valid(record) {
		if e != api.ErrField || len(b) > 0 {
			t.Fatalf("Put(%+v) = %v, %v, want ErrField", record, b, e)
		}
		return
	}
	if want := s.bytes(record); e != api.OK || !bytes.Equal(b, want) || len(b) != s.size {
		t.Fatalf("Put(%+v) = %v, %v, want %v", record, b, e, want)
	}
	s.wantGet(t, b)
}

// wantGet gets the record that b is: there is one if b are the bytes of the valid record that the document's layout finds in b.
func (s shape[T]) wantGet(t *testing.T, b []byte) {
	t.Helper()
	var want T
	wrong := api.ErrSize
	if len(b) == s.size {
		want, wrong = s.read(b), api.OK
		if !s.valid(want) || !bytes.Equal(s.bytes(want), b) {
			var none T
			want, wrong = none, api.ErrField
		}
	}
	got, e := s.get(b)
	if e != wrong || !reflect.DeepEqual(plain(got), plain(want)) {
		t.Fatalf("Get(%v) = %+v, %v, want %+v, %v", b, got, e, want, wrong)
	}
}

// wantAllGets changes each byte of b to every other, cuts b and makes it longer.
func (s shape[T]) wantAllGets(t *testing.T, b []byte) {
	t.Helper()
	for i := range b {
		for c := range 256 {
			d := slices.Clone(b)
			d[i] = byte(c)
			s.wantGet(t, d)
		}
	}
	for n := range len(b) {
		s.wantGet(t, b[:n])
		s.wantGet(t, b[n:])
	}
	for _, n := range []int{1, 2, 3, 14, 16, 255, 256, 4096, 65536} {
		s.wantGet(t, append(slices.Clone(b), make([]byte, n)...))
		s.wantGet(t, bytes.Repeat([]byte{255}, n))
	}
}

// wantRandomGets sets bytes to numbers among which many are right.
func (s shape[T]) wantRandomGets(t *testing.T, b []byte) {
	t.Helper()
	r := rand.New(rand.NewSource(12))
	for range 50000 {
		d := slices.Clone(b)
		for range 1 + r.Intn(3) {
			d[r.Intn(len(d))] = []byte{0, 1, 2, 3, 4, 7, 8, 9, 199, 200, 201, 255}[r.Intn(12)]
		}
		s.wantGet(t, d)
	}
}

// P12.1, P12.3: the document's examples

func TestExamples(t *testing.T) {
	n := api.NodeOne{Rel: 0, Prop: -1, Labels: []int{0, 4}}
	if b, e := recone.PutNode(n); e != api.OK || !bytes.Equal(b, []byte{0, 0, 0, 1, 0, 0, 0, 0, 1, 5, 0, 0, 0, 0, 0, 0}) {
		t.Errorf("PutNode: %v, %v", b, e)
	}
	p := api.PropOne{Key: 2, Kind: 2, Num: 258, Blob: -1, Prev: -1, Next: 6}
	if b, e := recone.PutProp(p); e != api.OK || !bytes.Equal(b, []byte{0, 2, 2, 0, 0, 0, 0, 0, 0, 1, 2, 0, 0, 0, 0, 0, 0, 0, 7}) {
		t.Errorf("PutProp: %v, %v", b, e)
	}
}

// P12.1

func TestNodes(t *testing.T) {
	for _, rel := range edges {
		for _, prop := range edges {
			nodes.wantPut(t, api.NodeOne{Rel: rel, Prop: prop})
			nodes.wantPut(t, api.NodeOne{Rel: rel, Prop: prop, Labels: []int{3, 199}})
		}
	}
}

func TestLabels(t *testing.T) {
	most := []int{0, 1, 2, 100, 196, 197, 198, 199}
	lists := [][]int{nil, {}, most, append(slices.Clone(most), 200), append([]int{-1}, most...), make([]int, 8), make([]int, 1000), {199, 0}, {0, 1, 2, 3, 4, 5, 6, 7, 8}, {0, 1, 2, 3, 4, 5, 6, 7, 7}, {0, 1, 2, 3, 4, 5, 6, 7, -1}}
	for n := range 13 {
		var list []int
		for i := range n {
			list = append(list, 3*i)
		}
		lists = append(lists, list)
	}
	for _, a := range edges {
		lists = append(lists, []int{a}, append(slices.Clone(most[:7]), a))
		for _, b := range edges {
			lists = append(lists, []int{a, b}, []int{1, a, b}, []int{a, b, 199}, []int{a, 5, b})
		}
	}
	for _, list := range lists {
		nodes.wantPut(t, api.NodeOne{Rel: 7, Prop: 8, Labels: list})
	}
	// Every place by itself: at each, the label that the one before it has, and its neighbours.
	for i := range 8 {
		for change := -3; change <= 3; change++ {
			list := []int{10, 12, 14, 16, 18, 20, 22, 24}
			list[i] += change
			nodes.wantPut(t, api.NodeOne{Labels: list})
		}
	}
}

func TestGetNode(t *testing.T) {
	for _, b := range [][]byte{
		make([]byte, 16),
		{0, 0, 8, 0, 0, 1, 0, 0, 1, 2, 3, 4, 5, 6, 199, 200},
		{0, 0, 7, 255, 0, 0, 255, 255, 10, 20, 30, 0, 0, 0, 0, 0},
		{0, 0, 0, 1, 0, 0, 0, 2, 200, 0, 0, 0, 0, 0, 0, 0},
	} {
		nodes.wantAllGets(t, b)
		nodes.wantRandomGets(t, b)
	}
	// All labels that two places may have, at the beginning, in the middle and at the end.
	for _, at := range []int{8, 11, 14} {
		for a := range 256 {
			for c := range 256 {
				b := []byte{0, 0, 0, 1, 0, 0, 0, 2, 1, 2, 3, 4, 5, 6, 7, 8}
				b[at], b[at+1] = byte(a), byte(c)
				clear(b[at+2:])
				nodes.wantGet(t, b)
			}
		}
	}
}

// P12.2

// setters set each field of a relationship by itself.
var setters = []func(*api.RelOne, int){
	func(r *api.RelOne, n int) { r.From = n },
	func(r *api.RelOne, n int) { r.To = n },
	func(r *api.RelOne, n int) { r.Type = n },
	func(r *api.RelOne, n int) { r.FromPrev = n },
	func(r *api.RelOne, n int) { r.FromNext = n },
	func(r *api.RelOne, n int) { r.ToPrev = n },
	func(r *api.RelOne, n int) { r.ToNext = n },
	func(r *api.RelOne, n int) { r.Prop = n },
}

func TestRels(t *testing.T) {
	for i, set := range setters {
		for _, other := range setters[i:] {
			for _, a := range edges {
				for _, b := range edges {
					r := api.RelOne{Link: api.Link{From: 258, To: 772, FromPrev: 5, FromNext: 6, ToPrev: 263, ToNext: 8}, Type: 10, Prop: 2313}
					set(&r, a)
					other(&r, b)
					rels.wantPut(t, r)
				}
			}
		}
	}
}

func TestLiveIsNotEncoded(t *testing.T) {
	r := api.RelOne{Link: api.Link{From: 3, To: 1023, FromPrev: -1, FromNext: 1, ToPrev: 2047, ToNext: -1}, Type: 5, Prop: 0}
	a, e := recone.PutRel(r)
	r.Live = true
	b, f := recone.PutRel(r)
	if e != api.OK || f != api.OK || !bytes.Equal(a, b) {
		t.Errorf("PutRel: %v, %v, and if it is live %v, %v", a, e, b, f)
	}
	if got, e := recone.GetRel(a); e != api.OK || got != r {
		t.Errorf("GetRel = %+v, %v, want %+v", got, e, r)
	}
	r.To = 1024
	if b, e := recone.PutRel(r); e != api.ErrField || len(b) > 0 {
		t.Errorf("PutRel = %v, %v", b, e)
	}
}

func TestGetRel(t *testing.T) {
	for _, b := range [][]byte{
		make([]byte, 30),
		{0, 0, 3, 255, 0, 0, 3, 255, 0, 199, 0, 0, 8, 0, 0, 0, 8, 0, 0, 0, 8, 0, 0, 0, 8, 0, 0, 1, 0, 0},
		{0, 0, 1, 2, 0, 0, 2, 3, 0, 9, 0, 0, 3, 4, 0, 0, 4, 5, 0, 0, 5, 6, 0, 0, 6, 7, 0, 0, 7, 8},
	} {
		rels.wantAllGets(t, b)
		rels.wantRandomGets(t, b)
	}
}

// P12.3

func TestProps(t *testing.T) {
	for _, kind := range edges {
		for _, blob := range edges {
			for _, num := range []int64{0, 1, -1, 258, 1 << 32, -1 << 32, math.MaxInt64, math.MinInt64} {
				props.wantPut(t, api.PropOne{Key: 5, Kind: kind, Num: num, Blob: blob, Prev: 6, Next: 7})
			}
		}
	}
	for kind := range 10 {
		for _, blob := range []int{-2, -1, 0, 65535, 65536} {
			for _, a := range edges {
				props.wantPut(t, api.PropOne{Key: a, Kind: kind, Blob: blob, Prev: -1, Next: -1})
				for _, b := range edges {
					props.wantPut(t, api.PropOne{Kind: kind, Blob: blob, Prev: a, Next: b})
				}
			}
		}
	}
}

func TestNumsOfAllBits(t *testing.T) {
	r := rand.New(rand.NewSource(3))
	for range 10000 {
		n := int64(r.Uint64())
		for kind := range 10 {
			props.wantPut(t, api.PropOne{Key: 1, Kind: kind, Num: n, Blob: -1, Prev: 2, Next: 3})
			props.wantPut(t, api.PropOne{Key: 1, Kind: kind, Num: n, Blob: 4, Prev: 2, Next: 3})
		}
	}
}

func TestGetProp(t *testing.T) {
	for kind := range byte(10) {
		for _, b := range [][]byte{
			{0, 199, kind, 0, 0, 0, 0, 0, 1, 0, 0, 0, 1, 0, 0, 0, 1, 0, 0},
			{0, 1, kind, 0, 0, 0, 0, 0, 0, 3, 4, 0, 0, 5, 6, 0, 0, 7, 8},
			{0, 0, kind, 0, 0, 0, 0, 0, 0, 0, 0, 0, 0, 0, 0, 0, 0, 0, 0},
			{0, 2, kind, 255, 254, 253, 252, 251, 250, 249, 248, 0, 0, 0, 1, 0, 0, 0, 2},
		} {
			props.wantAllGets(t, b)
		}
		props.wantRandomGets(t, []byte{0, 1, kind, 0, 0, 0, 0, 0, 0, 3, 4, 0, 0, 5, 6, 0, 0, 7, 8})
	}
}

// P12.1 to P12.3: a wrong size is told before a wrong field.

func TestSizes(t *testing.T) {
	for n := range 300 {
		for _, c := range []byte{0, 255} {
			b := bytes.Repeat([]byte{c}, n)
			nodes.wantGet(t, b)
			rels.wantGet(t, b)
			props.wantGet(t, b)
		}
	}
}

// Arguments stay as they are, and results are new memory.

func TestMemory(t *testing.T) {
	labels := []int{3, 5, 77, 77, 77, 77, 77, 77, 77, 77}
	n := api.NodeOne{Rel: 1, Prop: 2, Labels: labels[:2]}
	first, _ := recone.PutNode(n)
	second, _ := recone.PutNode(n)
	for i := range first[:cap(first)] {
		first[:cap(first)][i] = 9
	}
	if want := nodes.bytes(n); !bytes.Equal(second, want) || !slices.Equal(labels, []int{3, 5, 77, 77, 77, 77, 77, 77, 77, 77}) {
		t.Errorf("PutNode: %v, want %v, and its labels are %v", second, want, labels)
	}
	arg := append(slices.Clone(second), 77)[:16]
	a, _ := recone.GetNode(arg)
	b, _ := recone.GetNode(arg)
	if !bytes.Equal(arg[:17], append(slices.Clone(second), 77)) {
		t.Errorf("GetNode changed its argument to %v", arg[:17])
	}
	clear(arg)
	for i := range a.Labels[:cap(a.Labels)] {
		a.Labels[:cap(a.Labels)][i] = 9
	}
	if !reflect.DeepEqual(b, api.NodeOne{Rel: 1, Prop: 2, Labels: []int{3, 5}}) {
		t.Errorf("GetNode: results share memory: %+v", b)
	}
}

func TestLabelsOfOthersStay(t *testing.T) {
	for _, list := range [][]int{{5, 4}, {-1}, {200, 1, 300}, {0, 1, 2, 3, 4, 5, 6, 7, 8}, {math.MaxInt, math.MinInt}} {
		before := slices.Clone(list)
		if b, e := recone.PutNode(api.NodeOne{Labels: list}); e != api.ErrField || len(b) > 0 || !slices.Equal(list, before) {
			t.Errorf("PutNode of the labels %v: %v, %v, and they are %v", before, b, e, list)
		}
	}
}
