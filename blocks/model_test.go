package blocks_test

import (
	"bytes"
	"encoding/binary"
	"math/rand"
	"slices"
	"testing"

	"satchel/api"
	"satchel/blocks"
	"satchel/recfile"
)

// fields are the contents of a block in their parts; next is 1 more than the id.
type fields struct {
	start, used byte
	next        uint32
	data        [25]byte
}

func (x fields) bytes() []byte {
	b := binary.BigEndian.AppendUint32([]byte{x.start, x.used}, x.next)
	return append(b, x.data[:]...)
}

// model is a file of blocks: those in use by their ids.
type model map[int]fields

func (m model) sound(x fields) bool {
	_, hasNext := m[int(x.next)-1]
	switch {
	case x.start != 0 && x.start != 1, x.used > 25:
		return false
	case bytes.Count(x.data[x.used:], []byte{0}) != 25-int(x.used):
		return false
	case x.next != 0:
		return x.used == 25 && hasNext
	}
	return x.start == 1 || x.used > 0
}

// walk goes along a chain as P10.3 says.
func (m model) walk(first int) ([]int, api.Errno) {
	if _, found := m[first]; !found {
		return nil, api.ErrId
	}
	var ids []int
	for id := first; id >= 0; id = int(m[id].next) - 1 {
		if slices.Contains(ids, id) {
			return nil, api.ErrChain
		}
		if (m[id].start == 1) != (id == first) || !m.sound(m[id]) {
			return nil, api.ErrBlock
		}
		ids = append(ids, id)
	}
	return ids, api.OK
}

func (m model) load(first int) ([]byte, api.Errno) {
	ids, e := m.walk(first)
	var data []byte
	for _, id := range ids {
		x := m[id]
		data = append(data, x.data[:x.used]...)
	}
	return data, e
}

// check asks P10.6's conditions one by one.
func (m model) check() api.Errno {
	for _, x := range m {
		if !m.sound(x) {
			return api.ErrBlock
		}
	}
	referred := map[uint32]int{}
	for _, x := range m {
		referred[x.next]++
	}
	for id, x := range m {
		if n := referred[uint32(id+1)]; n > 1 || n > 0 && x.start == 1 {
			return api.ErrChain
		}
		if x.start == 0 && !m.chained(id) {
			return api.ErrChain
		}
	}
	return api.OK
}

// chained tells whether a block is in the chain of one with start 1, whose blocks may be any.
func (m model) chained(id int) bool {
	for first, x := range m {
		if x.start != 1 {
			continue
		}
		for at, steps := first, 0; at >= 0 && steps <= len(m); at, steps = int(m[at].next)-1, steps+1 {
			if at == id {
				return true
			}
		}
	}
	return false
}

// onceEach tells what the last sentence of P10.6 does: every block in use is in exactly one valid chain.
func (m model) onceEach() bool {
	times := map[int]int{}
	for first := range m {
		ids, _ := m.walk(first)
		for _, id := range ids {
			times[id]++
		}
	}
	for id := range m {
		if times[id] != 1 {
			return false
		}
	}
	return true
}

func newFile(t *testing.T, size int) *recfile.File {
	t.Helper()
	f, e := recfile.New(9, 1, size)
	if f == nil || e != api.OK {
		t.Fatalf("New: %v, %v", f, e)
	}
	return f
}

// file has the model's blocks, and the given number of records.
func (m model) file(t *testing.T, count int) *recfile.File {
	t.Helper()
	f := newFile(t, 32)
	if count > 0 {
		f.Put(count-1, make([]byte, 31))
		f.Free(count - 1)
	}
	for id, x := range m {
		if e := f.Put(id, x.bytes()); e != api.OK {
			t.Fatalf("Put: %v", e)
		}
	}
	return f
}

// compare asks everything of a file, Drop of all ids too.
func (m model) compare(t *testing.T, count int) {
	t.Helper()
	f := m.file(t, count)
	before := f.Bytes()
	want := m.check()
	if (want == api.OK) != m.onceEach() {
		t.Fatalf("the test's own check: %v of %v", want, m)
	}
	if e := blocks.Check(f); e != want {
		t.Fatalf("Check: %v, want %v, of %v", e, want, m)
	}
	for first := -1; first <= count; first++ {
		m.compareChain(t, f, first)
	}
	if !bytes.Equal(f.Bytes(), before) {
		t.Fatalf("Check, Walk or Load changed %v", m)
	}
	for first := range count + 1 {
		m.compareDrop(t, count, first)
	}
}

func (m model) compareChain(t *testing.T, f *recfile.File, first int) {
	t.Helper()
	ids, want := m.walk(first)
	if got, e := blocks.Walk(f, first); e != want || !slices.Equal(got, ids) {
		t.Fatalf("Walk(%d) = %v, %v, want %v, %v, of %v", first, got, e, ids, want, m)
	}
	data, want := m.load(first)
	if got, e := blocks.Load(f, first); e != want || !bytes.Equal(got, data) {
		t.Fatalf("Load(%d) = %v, %v, want %v, %v, of %v", first, got, e, data, want, m)
	}
}

func (m model) compareDrop(t *testing.T, count, first int) {
	t.Helper()
	f, g := m.file(t, count), m.file(t, count)
	ids, want := m.walk(first)
	for _, id := range ids {
		g.Free(id)
	}
	if e := blocks.Drop(f, first); e != want || !bytes.Equal(f.Bytes(), g.Bytes()) {
		t.Fatalf("Drop(%d): %v, want %v, of %v", first, e, want, m)
	}
}

// files goes over all files of n records, each not in use or one of the blocks.
func files(n int, list []fields, yield func(model)) {
	if n == 0 {
		yield(model{})
		return
	}
	files(n-1, list, func(m model) {
		yield(m)
		for _, x := range list {
			m[n-1] = x
			yield(m)
		}
		delete(m, n-1)
	})
}

// filled is a block whose first used bytes of data are not zeros.
func filled(start, used byte, next uint32) fields {
	x := fields{start: start, used: used, next: next}
	for i := range min(int(used), 25) {
		x.data[i] = byte(i + 1)
	}
	return x
}

// P10.3, P10.4, P10.5, P10.6

// All files of two blocks, right and wrong in every field.
func TestAllFilesOfTwo(t *testing.T) {
	var list []fields
	for _, start := range []byte{0, 1, 2, 255} {
		for _, used := range []byte{0, 1, 24, 25, 26, 255} {
			for _, next := range []uint32{0, 1, 2, 3, 1<<32 - 1} {
				list = append(list, filled(start, used, next))
			}
		}
	}
	files(2, list, func(m model) { m.compare(t, 2) })
}

// All files of four blocks, most of which are sound.
func TestAllFilesOfFour(t *testing.T) {
	var list []fields
	for start := range byte(2) {
		for next := range uint32(5) {
			used := byte(25)
			if next == 0 {
				used = 7
			}
			list = append(list, filled(start, used, next))
		}
	}
	files(4, list, func(m model) {
		if len(m) == 4 || m[0].start == 1 {
			m.compare(t, 4)
		}
	})
}

// Data behind the used bytes, at each place of it.
func TestDataBehindTheUsed(t *testing.T) {
	for start := range byte(2) {
		for used := range byte(27) {
			for at := range 25 {
				x := fields{start: start, used: used}
				x.data[at] = 0x80
				model{0: x}.compare(t, 1)
				y := fields{start: start, used: used, next: 3}
				y.data[at] = 1
				model{1: y, 2: filled(0, 1, 0)}.compare(t, 3)
			}
		}
	}
}

// shuffled are ids of which each is referred to by at most one, in chains of random lengths.
func shuffled(r *rand.Rand, n int) model {
	m := model{}
	ids := r.Perm(n)
	for i, id := range ids {
		x := filled(0, 25, 0)
		if i == 0 || m[ids[i-1]].next == 0 {
			x.start = 1
		}
		if i+1 < n && r.Intn(4) > 0 {
			x.next = uint32(ids[i+1] + 1)
		}
		m[id] = x
	}
	return m
}

// Longer chains in all orders, right ones and ones of which a block or two have changed.
func TestLongChains(t *testing.T) {
	for seed := range int64(1500) {
		r := rand.New(rand.NewSource(seed))
		n := 1 + r.Intn(12)
		m := shuffled(r, n)
		m.compare(t, n)
		for range r.Intn(3) {
			x := m[r.Intn(n)]
			switch r.Intn(6) {
			case 0:
				x.start ^= 1
			case 1, 2, 3:
				x.next = uint32(r.Intn(n + 2))
			case 4:
				x = filled(x.start, byte(r.Intn(27)), x.next)
			case 5:
				delete(m, r.Intn(n))
			}
			m[r.Intn(n)] = x
		}
		m.compare(t, n)
	}
}
