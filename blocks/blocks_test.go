package blocks_test

import (
	"bytes"
	"math"
	"math/rand"
	"slices"
	"testing"

	"satchel/api"
	"satchel/blocks"
	"satchel/recfile"
)

func smudge(b []byte) {
	b = b[:cap(b)]
	for i := range b {
		b[i] ^= 0xff
	}
}

// roomy gives a copy of b with spare capacity, whose bytes are 77.
func roomy(b []byte) []byte {
	r := slices.Repeat([]byte{77}, len(b)+9)
	copy(r, b)
	return r[:len(b)]
}

// text is n bytes, none of which is 0.
func text(n int) []byte {
	b := make([]byte, n)
	for i := range b {
		b[i] = byte(1 + i%255)
	}
	return b
}

func wantStore(t *testing.T, f *recfile.File, data []byte, id int) {
	t.Helper()
	if got, e := blocks.Store(f, data); got != id || e != api.OK {
		t.Errorf("Store of %d bytes = %d, %v, want %d", len(data), got, e, id)
	}
}

func wantWalk(t *testing.T, f *recfile.File, first int, ids ...int) {
	t.Helper()
	if got, e := blocks.Walk(f, first); e != api.OK || !slices.Equal(got, ids) {
		t.Errorf("Walk(%d) = %v, %v, want %v", first, got, e, ids)
	}
}

func wantLoad(t *testing.T, f *recfile.File, first int, data []byte) {
	t.Helper()
	if got, e := blocks.Load(f, first); e != api.OK || !bytes.Equal(got, data) {
		t.Errorf("Load(%d) = %v, %v, want %v", first, got, e, data)
	}
}

func wantBlock(t *testing.T, f *recfile.File, id int, x fields) {
	t.Helper()
	if b, e := f.Get(id); e != api.OK || !bytes.Equal(b, x.bytes()) {
		t.Errorf("block %d: %v, %v, want %v", id, b, e, x.bytes())
	}
}

func wantErrno(t *testing.T, what string, got, want api.Errno) {
	t.Helper()
	if got != want {
		t.Errorf("%s: %v, want %v", what, got, want)
	}
}

// wantErrors asks Walk, Load and Drop of a chain with which something is wrong.
func wantErrors(t *testing.T, f *recfile.File, first int, want api.Errno) {
	t.Helper()
	before := f.Bytes()
	if ids, e := blocks.Walk(f, first); e != want || len(ids) != 0 {
		t.Errorf("Walk(%d) = %v, %v, want %v", first, ids, e, want)
	}
	if b, e := blocks.Load(f, first); e != want || len(b) != 0 {
		t.Errorf("Load(%d) = %v, %v, want %v", first, b, e, want)
	}
	if e := blocks.Drop(f, first); e != want {
		t.Errorf("Drop(%d): %v, want %v", first, e, want)
	}
	if !bytes.Equal(f.Bytes(), before) {
		t.Errorf("Walk(%d), Load or Drop changed the file", first)
	}
}

// The document's examples.

// P10.2, P10.4, P10.5
func TestExamples(t *testing.T) {
	f := newFile(t, 32)
	data := text(30)
	wantStore(t, f, data, 0)
	x, y := fields{start: 1, used: 25, next: 2}, fields{used: 5}
	copy(x.data[:], data)
	copy(y.data[:], data[25:])
	wantBlock(t, f, 0, x)
	wantBlock(t, f, 1, y)
	wantStore(t, f, []byte{}, 2)
	wantBlock(t, f, 2, fields{start: 1})
	wantErrors(t, f, 1, api.ErrBlock)
	wantErrors(t, f, 3, api.ErrId)

	wantErrno(t, "Drop", blocks.Drop(f, 0), api.OK)
	if f.Live() != 1 || f.Count() != 3 {
		t.Errorf("after Drop: Live %d, Count %d", f.Live(), f.Count())
	}
	g, _ := recfile.Open(f.Bytes())
	wantStore(t, f, text(26), 0)
	wantWalk(t, f, 0, 0, 1)
	wantStore(t, g, text(60), 0)
	wantWalk(t, g, 0, 0, 1, 3)
	wantLoad(t, g, 0, text(60))
	wantLoad(t, g, 2, nil)
}

// P10.1

func TestOtherSizes(t *testing.T) {
	for size := 2; size < 256; size++ {
		want := api.ErrSize
		if size == 32 {
			want = api.OK
		}
		f := newFile(t, size)
		f.Alloc()
		f.Free(0)
		f.Put(1, append([]byte{1}, make([]byte, size-2)...))
		before := f.Bytes()
		wantErrno(t, "Check", blocks.Check(f), want)
		_, e := blocks.Walk(f, 1)
		wantErrno(t, "Walk", e, want)
		_, e = blocks.Load(f, 1)
		wantErrno(t, "Load", e, want)
		if size == 32 {
			continue
		}
		for _, first := range []int{-1, 0, 1, 2} { // ErrSize comes before ErrId and ErrBlock
			wantErrors(t, f, first, api.ErrSize)
		}
		for _, n := range []int{0, 1, 25, 26, 25*65536 + 1} { // and before ErrFull
			if id, e := blocks.Store(f, make([]byte, n)); id != 0 || e != api.ErrSize {
				t.Errorf("size %d: Store of %d bytes = %d, %v", size, n, id, e)
			}
		}
		if !bytes.Equal(f.Bytes(), before) {
			t.Errorf("size %d: the file has changed", size)
		}
	}
}

// P10.2, P10.3, P10.4

// All lengths up to some blocks, in a file with holes.
func TestStoreOfAllLengths(t *testing.T) {
	for n := range 180 {
		f := newFile(t, 32)
		for _, id := range []int{0, 2, 3, 6} {
			f.Put(id, fields{start: 1, used: 1, data: [25]byte{7}}.bytes())
		}
		data := text(n)
		wantStore(t, f, data, 1)
		ids := []int{1, 4, 5, 7, 8, 9, 10, 11}[:max(1, (n+24)/25)]
		wantWalk(t, f, 1, ids...)
		wantLoad(t, f, 1, data)
		wantErrno(t, "Check", blocks.Check(f), api.OK)
		for i, id := range ids {
			part := data[25*i : min(n, 25*i+25)]
			x := fields{used: byte(len(part))}
			copy(x.data[:], part)
			if i == 0 {
				x.start = 1
			}
			if i+1 < len(ids) {
				x.next = uint32(ids[i+1] + 1)
			}
			wantBlock(t, f, id, x)
		}
		if f.Live() != 4+len(ids) {
			t.Errorf("%d bytes: %d records in use", n, f.Live())
		}
	}
}

// Bytes of zeros count as others do.
func TestStoreOfZeros(t *testing.T) {
	for n := range 60 {
		f := newFile(t, 32)
		wantStore(t, f, make([]byte, n), 0)
		wantLoad(t, f, 0, make([]byte, n))
		wantErrno(t, "Check", blocks.Check(f), api.OK)
	}
}

// P10.2

// A file with room for some blocks only.
func TestStoreInAFullFile(t *testing.T) {
	f := newFile(t, 32)
	for range 65536 {
		f.Alloc()
	}
	full := f.Bytes()
	for room := range 5 {
		f, _ := recfile.Open(full)
		for _, id := range []int{60000, 3, 65535, 0}[:room] {
			f.Free(id)
		}
		before := f.Bytes()
		for _, n := range []int{25*room + 1, 25*room + 25, 25*room + 26, 25 * 65536, 25*65536 + 1} {
			if id, e := blocks.Store(f, text(n)); id != 0 || e != api.ErrFull {
				t.Errorf("room %d: Store of %d bytes = %d, %v", room, n, id, e)
			}
		}
		if room == 0 {
			if id, e := blocks.Store(f, nil); id != 0 || e != api.ErrFull {
				t.Errorf("Store of nothing in a full file = %d, %v", id, e)
			}
		}
		if !bytes.Equal(f.Bytes(), before) {
			t.Errorf("room %d: Store has changed the file", room)
		}
		if room > 0 {
			ids := slices.Sorted(slices.Values([]int{60000, 3, 65535, 0}[:room]))
			wantStore(t, f, text(25*room), ids[0])
			wantWalk(t, f, ids[0], ids...)
			wantLoad(t, f, ids[0], text(25*room))
		}
	}
}

// P10.2, P10.3, P10.4, P10.5, P10.6

// A chain of all blocks that there can be.
func TestLongestChain(t *testing.T) {
	f := newFile(t, 32)
	data := text(25 * 65536)
	wantStore(t, f, data, 0)
	wantLoad(t, f, 0, data)
	wantErrno(t, "Check", blocks.Check(f), api.OK)
	if ids, e := blocks.Walk(f, 0); e != api.OK || len(ids) != 65536 || ids[65535] != 65535 {
		t.Errorf("Walk: %d ids, %v", len(ids), e)
	}
	wantErrors(t, f, 65535, api.ErrBlock)
	wantErrors(t, f, 65536, api.ErrId)
	last := filled(0, 25, 1)
	f.Put(65535, last.bytes()) // the last refers to the first
	wantErrors(t, f, 0, api.ErrChain)
	wantErrno(t, "Check", blocks.Check(f), api.ErrChain)
	last.next = 65536 // to itself
	f.Put(65535, last.bytes())
	wantErrors(t, f, 0, api.ErrChain)
	wantErrno(t, "Check", blocks.Check(f), api.ErrChain)
	last.next = 0
	f.Put(65535, last.bytes())
	wantErrno(t, "Drop", blocks.Drop(f, 0), api.OK)
	if f.Live() != 0 || f.Count() != 65536 {
		t.Errorf("after Drop: Live %d, Count %d", f.Live(), f.Count())
	}
}

// Many blocks with start 1 that refer to one chain: a Check that goes along it for each of them takes too long.
func TestManyReferToOneChain(t *testing.T) {
	f := newFile(t, 32)
	wantStore(t, f, text(25*30000), 0)
	for range 30000 {
		id, _ := f.Alloc()
		f.Put(id, filled(1, 25, 2).bytes())
	}
	wantErrno(t, "Check", blocks.Check(f), api.ErrChain)
}

// P10.3

func TestEdgesOfFirst(t *testing.T) {
	f := newFile(t, 32)
	wantStore(t, f, nil, 0)
	wantStore(t, f, nil, 1)
	blocks.Drop(f, 0)
	for _, first := range []int{math.MinInt, -65536, -2, -1, 0, 2, 65535, 65536, 1 << 32, 1<<32 + 1, math.MaxInt} {
		wantErrors(t, f, first, api.ErrId)
	}
	wantWalk(t, f, 1, 1)
}

// What is wrong first along the chain is told, and what stands behind it is not looked at.
func TestFirstFaultOfAChain(t *testing.T) {
	good := filled(0, 25, 3)
	for _, c := range []struct {
		name string
		m    model
		want api.Errno
	}{
		{"start 0 first", model{0: filled(0, 3, 0)}, api.ErrBlock},
		{"start 2 first", model{0: filled(2, 3, 0)}, api.ErrBlock},
		{"start 1 second", model{0: filled(1, 25, 2), 1: filled(1, 3, 0)}, api.ErrBlock},
		{"used 26", model{0: filled(1, 26, 0)}, api.ErrBlock},
		{"used 24 with a next", model{0: filled(1, 24, 2), 1: filled(0, 3, 0)}, api.ErrBlock},
		{"used 0 second", model{0: filled(1, 25, 2), 1: filled(0, 0, 0)}, api.ErrBlock},
		{"next is not in use", model{0: filled(1, 25, 2)}, api.ErrBlock},
		{"next is no record", model{0: filled(1, 25, 70000)}, api.ErrBlock},
		{"next is the greatest number", model{0: filled(1, 25, 1<<32-1)}, api.ErrBlock},
		{"next is itself", model{0: filled(1, 25, 1)}, api.ErrChain},
		{"back to the first", model{0: filled(1, 25, 2), 1: filled(0, 25, 1)}, api.ErrChain},
		{"back to the second", model{0: filled(1, 25, 2), 1: good, 2: filled(0, 25, 2)}, api.ErrChain},
		{"a visited block before one that is not sound", model{0: filled(1, 25, 2), 1: filled(0, 25, 1), 2: filled(3, 3, 0)}, api.ErrChain},
		{"a block that is not sound before the visited one", model{0: filled(1, 25, 2), 1: filled(0, 24, 1)}, api.ErrBlock},
	} {
		f := c.m.file(t, 5)
		wantErrors(t, f, 0, c.want)
		_, want := c.m.walk(0)
		wantErrno(t, c.name+", the test's own", want, c.want)
	}
}

// P10.6

func TestCheck(t *testing.T) {
	for _, c := range []struct {
		name string
		m    model
		want api.Errno
	}{
		{"nothing", model{}, api.OK},
		{"an empty string", model{3: filled(1, 0, 0)}, api.OK},
		{"two chains", model{0: filled(1, 25, 4), 3: filled(0, 1, 0), 1: filled(1, 25, 0)}, api.OK},
		{"not sound, in no chain", model{0: filled(1, 1, 0), 1: filled(0, 0, 0)}, api.ErrBlock},
		{"not sound, behind a wrong chain", model{0: filled(1, 25, 1), 4: filled(1, 26, 0)}, api.ErrBlock},
		{"two with the same next", model{0: filled(1, 25, 3), 1: filled(1, 25, 3), 2: filled(0, 1, 0)}, api.ErrChain},
		{"a start as next", model{0: filled(1, 25, 2), 1: filled(1, 1, 0)}, api.ErrChain},
		{"a start as its own next", model{0: filled(1, 25, 1)}, api.ErrChain},
		{"a start 0 alone", model{0: filled(0, 1, 0)}, api.ErrChain},
		{"a ring of starts 0", model{0: filled(1, 1, 0), 1: filled(0, 25, 3), 2: filled(0, 25, 2)}, api.ErrChain},
		{"a ring of one", model{2: filled(0, 25, 3)}, api.ErrChain},
		{"a start 0 that leads into a chain", model{0: filled(1, 25, 2), 1: filled(0, 1, 0), 2: filled(0, 25, 2)}, api.ErrChain},
		{"a start 0 that leads to a start", model{0: filled(1, 1, 0), 1: filled(0, 25, 1)}, api.ErrChain},
		{"shared, and another in no chain", model{0: filled(1, 25, 3), 1: filled(1, 25, 3), 2: filled(0, 1, 0), 3: filled(0, 1, 0)}, api.ErrChain},
	} {
		wantErrno(t, c.name+", the test's own", c.m.check(), c.want)
		wantErrno(t, c.name, blocks.Check(c.m.file(t, 6)), c.want)
	}
}

// P10.2, P10.3, P10.4, P10.5, P10.6

// Strings that come and go.
func TestHistories(t *testing.T) {
	for seed := range int64(60) {
		r := rand.New(rand.NewSource(seed))
		f := newFile(t, 32)
		held := map[int][]byte{}
		for range 60 {
			if r.Intn(5) > 1 || len(held) == 0 {
				data := make([]byte, r.Intn(120))
				r.Read(data)
				id, e := blocks.Store(f, data)
				if _, found := held[id]; found || e != api.OK {
					t.Fatalf("seed %d: Store = %d, %v", seed, id, e)
				}
				held[id] = data
			} else {
				var ids []int
				for id := range held {
					ids = append(ids, id)
				}
				slices.Sort(ids)
				id := ids[r.Intn(len(ids))]
				wantErrno(t, "Drop", blocks.Drop(f, id), api.OK)
				wantErrors(t, f, id, api.ErrId)
				delete(held, id)
			}
			live := 0
			for id, data := range held {
				wantLoad(t, f, id, data)
				live += max(1, (len(data)+24)/25)
			}
			if f.Live() != live || blocks.Check(f) != api.OK {
				t.Fatalf("seed %d: Live %d, want %d; Check %v", seed, f.Live(), live, blocks.Check(f))
			}
		}
	}
}

// P10.2, P10.3, P10.4

func TestMemory(t *testing.T) {
	for _, n := range []int{0, 1, 24, 25, 26, 60} {
		f := newFile(t, 32)
		data := roomy(text(n))
		wantStore(t, f, data, 0)
		if !bytes.Equal(data[:cap(data)], append(text(n), bytes.Repeat([]byte{77}, 9)...)) {
			t.Errorf("Store changed its argument to %v", data[:cap(data)])
		}
		smudge(data)
		wantLoad(t, f, 0, text(n))

		first, _ := blocks.Load(f, 0)
		second, _ := blocks.Load(f, 0)
		smudge(first)
		if !bytes.Equal(second, text(n)) {
			t.Errorf("a second result of Load: %v", second)
		}
		wantLoad(t, f, 0, text(n))
		blocks.Drop(f, 0)
		if !bytes.Equal(second, text(n)) {
			t.Errorf("a result of Load, after Drop: %v", second)
		}
	}
	f := newFile(t, 32)
	wantStore(t, f, text(60), 0)
	ids, _ := blocks.Walk(f, 0)
	ids = ids[:cap(ids)]
	for i := range ids {
		ids[i] = 99
	}
	wantWalk(t, f, 0, 0, 1, 2)
}
