package recfile_test

import (
	"bytes"
	"encoding/binary"
	"hash/crc32"
	"math"
	"math/rand"
	"slices"
	"testing"

	"satchel/api"
	"satchel/recfile"
)

// smudge overwrites a slice and its spare capacity.
func smudge(b []byte) {
	b = b[:cap(b)]
	for i := range b {
		b[i] ^= 0xff
	}
}

// roomy gives a copy of b with spare capacity, whose bytes are 77.
func roomy(b []byte) []byte {
	r := slices.Repeat([]byte{77}, len(b)+9)
	copy(r, b)
	return r[:len(b)]
}

// wantIntact checks that a slice of roomy is as it was made.
func wantIntact(t *testing.T, what string, r, b []byte) {
	t.Helper()
	if !bytes.Equal(r[:cap(r)], append(slices.Clone(b), bytes.Repeat([]byte{77}, 9)...)) {
		t.Errorf("%s changed its argument %v to %v", what, b, r[:cap(r)])
	}
}

func wantBytes(t *testing.T, what string, got, want []byte) {
	t.Helper()
	if !bytes.Equal(got, want) {
		t.Errorf("%s: %v, want %v", what, got, want)
	}
}

func wantErrno(t *testing.T, what string, got, want api.Errno) {
	t.Helper()
	if got != want {
		t.Errorf("%s: %v, want %v", what, got, want)
	}
}

func wantAlloc(t *testing.T, f *recfile.File, id int, want api.Errno) {
	t.Helper()
	if got, e := f.Alloc(); got != id || e != want {
		t.Errorf("Alloc = %d, %v, want %d, %v", got, e, id, want)
	}
}

func wantCounts(t *testing.T, f *recfile.File, count, live int) {
	t.Helper()
	if f.Count() != count || f.Live() != live {
		t.Errorf("Count %d, Live %d, want %d, %d", f.Count(), f.Live(), count, live)
	}
}

func wantGet(t *testing.T, f *recfile.File, id int, want []byte) {
	t.Helper()
	if b, e := f.Get(id); e != api.OK || !bytes.Equal(b, want) {
		t.Errorf("Get(%d) = %v, %v, want %v", id, b, e, want)
	}
}

func wantNone(t *testing.T, f *recfile.File, id int) {
	t.Helper()
	if b, e := f.Get(id); e != api.ErrId || len(b) != 0 {
		t.Errorf("Get(%d) = %v, %v, want ErrId", id, b, e)
	}
}

// P9.1

func TestNew(t *testing.T) {
	edges := []int{math.MinInt, -256, -1, 0, 1, 2, 3, 31, 32, 127, 128, 254, 255, 256, 257, 258, 511, 512, 65536, 65538, math.MaxInt}
	for _, kind := range edges {
		for _, version := range edges {
			for _, size := range edges {
				want := api.OK
				if kind < 0 || kind > 255 || version < 0 || version > 255 {
					want = api.ErrArg
				} else if size < 2 || size > 255 {
					want = api.ErrSize
				}
				f, e := recfile.New(kind, version, size)
				if e != want || (f == nil) != (want != api.OK) {
					t.Fatalf("New(%d, %d, %d): %v, %v, want %v", kind, version, size, f, e, want)
				}
				if f != nil && (f.Kind() != kind || f.Version() != version || f.Size() != size || f.Count() != 0 || f.Live() != 0) {
					t.Fatalf("New(%d, %d, %d): %d, %d, %d, with %d records", kind, version, size, f.Kind(), f.Version(), f.Size(), f.Count())
				}
			}
		}
	}
}

// P9.3, P9.4, P9.6: the document's examples

func TestExampleOfRecords(t *testing.T) {
	f := made(t, 4, 1, 3)
	wantErrno(t, "Put", f.Put(1, []byte{7, 8}), api.OK)
	wantCounts(t, f, 2, 1)
	wantNone(t, f, 0)
	wantBytes(t, "the records", f.Bytes()[16:], []byte{0, 0, 0, 1, 7, 8})
	wantAlloc(t, f, 0, api.OK)
	wantAlloc(t, f, 2, api.OK)
	wantErrno(t, "Free", f.Free(1), api.OK)
	wantAlloc(t, f, 1, api.OK)
	wantGet(t, f, 1, []byte{0, 0})
}

func TestExampleOfTheEmptyFile(t *testing.T) {
	b := made(t, 0, 0, 2).Bytes()
	head := []byte{0x53, 0x52, 0x45, 0x43, 0, 0, 0, 2, 0, 0, 0, 0}
	wantBytes(t, "Bytes", b, binary.BigEndian.AppendUint32(head, crc32.ChecksumIEEE(head)))
}

// P9.2

// build is a file's bytes with any header, and a right checksum.
func build(letters string, kind, version byte, size uint16, count uint32, records []byte) []byte {
	b := append([]byte(letters), kind, version)
	b = binary.BigEndian.AppendUint16(b, size)
	b = binary.BigEndian.AppendUint32(b, count)
	b = binary.BigEndian.AppendUint32(b, crc32.ChecksumIEEE(b))
	return append(b, records...)
}

// wrong is the error of Open, written down from the document.
func wrong(b []byte) api.Errno {
	if len(b) < 16 {
		return api.ErrShort
	}
	size, count := int(binary.BigEndian.Uint16(b[6:])), int(binary.BigEndian.Uint32(b[8:]))
	switch {
	case string(b[:4]) != "SREC":
		return api.ErrMagic
	case binary.BigEndian.Uint32(b[12:]) != crc32.ChecksumIEEE(b[:12]):
		return api.ErrSum
	case size < 2 || size > 255:
		return api.ErrSize
	case count > 65536 || len(b) != 16+size*count:
		return api.ErrCount
	}
	for record := range slices.Chunk(b[16:], size) {
		if record[0] > 1 {
			return api.ErrFlag
		}
		if record[0] == 0 && slices.Max(record) > 0 {
			return api.ErrFree
		}
	}
	return api.OK
}

// wantOpen opens b, and checks that the file has these bytes if nothing is wrong with them.
func wantOpen(t *testing.T, b []byte, want api.Errno) {
	t.Helper()
	f, e := recfile.Open(b)
	if e != want || (f == nil) != (want != api.OK) {
		t.Fatalf("Open of %d bytes, %v: %v, %v, want %v", len(b), b[:min(len(b), 40)], f, e, want)
	}
	if f != nil && !bytes.Equal(f.Bytes(), b) {
		t.Fatalf("Open of %d bytes, %v: Bytes %v", len(b), b[:min(len(b), 40)], f.Bytes()[:min(len(f.Bytes()), 40)])
	}
}

func TestOpenOfWrongBytes(t *testing.T) {
	good := build("SREC", 3, 9, 3, 3, []byte{1, 2, 3, 0, 0, 0, 1, 0, 0})
	for _, c := range []struct {
		name string
		b    []byte
		want api.Errno
	}{
		{"good", good, api.OK},
		{"nothing", nil, api.ErrShort},
		{"letters alone", []byte("SREC"), api.ErrShort},
		{"a byte less than a header", good[:15], api.ErrShort},
		{"a header without its records", good[:16], api.ErrCount},
		{"a header of no records", build("SREC", 0, 0, 2, 0, nil), api.OK},
		{"small letters", build("srec", 0, 0, 2, 0, nil), api.ErrMagic},
		{"one other letter", build("SREX", 0, 0, 2, 0, nil), api.ErrMagic},
		{"size 0", build("SREC", 0, 0, 0, 0, nil), api.ErrSize},
		{"size 0, records", build("SREC", 0, 0, 0, 5, nil), api.ErrSize},
		{"size 1", build("SREC", 0, 0, 1, 1, []byte{1}), api.ErrSize},
		{"size 2", build("SREC", 0, 0, 2, 1, []byte{1, 7}), api.OK},
		{"size 255", build("SREC", 0, 0, 255, 1, append([]byte{1}, make([]byte, 254)...)), api.OK},
		{"size 256", build("SREC", 0, 0, 256, 1, append([]byte{1}, make([]byte, 255)...)), api.ErrSize},
		{"size 258, of which one byte is 2", build("SREC", 0, 0, 258, 0, nil), api.ErrSize},
		{"size 65535", build("SREC", 0, 0, 65535, 0, nil), api.ErrSize},
		{"all kinds of bits", build("SREC", 255, 254, 2, 0, nil), api.OK},
		{"no records, a byte more", build("SREC", 0, 0, 2, 0, []byte{0}), api.ErrCount},
		{"no records, a record more", build("SREC", 0, 0, 2, 0, []byte{0, 0}), api.ErrCount},
		{"a byte less", good[:len(good)-1], api.ErrCount},
		{"a byte more", append(slices.Clone(good), 0), api.ErrCount},
		{"the most records", build("SREC", 0, 0, 2, 65536, make([]byte, 2*65536)), api.OK},
		{"one more than the most", build("SREC", 0, 0, 2, 65537, make([]byte, 2*65537)), api.ErrCount},
		{"2^32 - 1 records", build("SREC", 0, 0, 2, 1<<32-1, make([]byte, 10)), api.ErrCount},
		{"2^31 records", build("SREC", 0, 0, 2, 1<<31, nil), api.ErrCount},
		{"flag 2", build("SREC", 0, 0, 2, 1, []byte{2, 0}), api.ErrFlag},
		{"flag 255", build("SREC", 0, 0, 2, 1, []byte{255, 0}), api.ErrFlag},
		{"flag 2 and bytes", build("SREC", 0, 0, 2, 1, []byte{2, 1}), api.ErrFlag},
		{"flag 0 and bytes", build("SREC", 0, 0, 3, 1, []byte{0, 0, 1}), api.ErrFree},
		{"ErrFree before ErrFlag", build("SREC", 0, 0, 2, 2, []byte{0, 1, 2, 0}), api.ErrFree},
		{"ErrFlag before ErrFree", build("SREC", 0, 0, 2, 2, []byte{2, 0, 0, 1}), api.ErrFlag},
	} {
		t.Run(c.name, func(t *testing.T) {
			wantErrno(t, "the test's own", wrong(c.b), c.want)
			wantOpen(t, c.b, c.want)
		})
	}
}

// Two faults at once: the one that is named first is told.
func TestOpenTellsTheFirstFault(t *testing.T) {
	type parts struct {
		letters string
		size    uint16
		count   uint32
		records []byte
		sum     byte
		short   bool
	}
	faults := []struct {
		e     api.Errno
		spoil func(*parts)
	}{
		{api.ErrShort, func(p *parts) { p.short = true }},
		{api.ErrMagic, func(p *parts) { p.letters = "SRED" }},
		{api.ErrSum, func(p *parts) { p.sum = 1 }},
		{api.ErrSize, func(p *parts) { p.size = 1 }},
		{api.ErrCount, func(p *parts) { p.count = 70000 }},
		{api.ErrFlag, func(p *parts) { p.records[2] = 9 }},
		{api.ErrFree, func(p *parts) { p.records[5] = 9 }},
	}
	for i, first := range faults {
		for _, second := range faults[i:] {
			p := &parts{letters: "SREC", size: 2, count: 3, records: []byte{1, 5, 1, 0, 0, 0}}
			second.spoil(p)
			first.spoil(p)
			b := build(p.letters, 1, 1, p.size, p.count, p.records)
			b[14] ^= p.sum
			if p.short {
				b = b[:12]
			}
			wantOpen(t, b, first.e)
		}
	}
}

// fixed is a copy of b with the right checksum.
func fixed(b []byte) []byte {
	b = slices.Clone(b)
	copy(b[12:], binary.BigEndian.AppendUint32(nil, crc32.ChecksumIEEE(b[:12])))
	return b
}

// Every change of a byte, with the checksum as it was and with the right one; every prefix; some bytes more.
func TestOpenOfChangedBytes(t *testing.T) {
	good := build("SREC", 3, 9, 4, 4, []byte{1, 2, 3, 0, 0, 0, 0, 0, 1, 0, 0, 0, 0, 0, 0, 0})
	for i := range good {
		for change := range 256 {
			b := slices.Clone(good)
			b[i] = byte(change)
			wantOpen(t, b, wrong(b))
			wantOpen(t, fixed(b), wrong(fixed(b)))
		}
	}
	for n := range len(good) {
		wantOpen(t, good[:n], wrong(good[:n]))
	}
	for n := range 9 {
		b := append(slices.Clone(good), make([]byte, n)...)
		wantOpen(t, b, wrong(b))
	}
}

// Records of all flags and bytes.
func TestOpenOfAllRecords(t *testing.T) {
	for flag := range 256 {
		for c := range 256 {
			for at := range 3 {
				record := make([]byte, 4)
				record[0], record[at+1] = byte(flag), byte(c)
				b := build("SREC", 1, 1, 4, 2, append([]byte{1, 0, 0, 0}, record...))
				wantOpen(t, b, wrong(b))
			}
		}
	}
}

// P9.2, P9.3

func TestOpenedFileGoesOn(t *testing.T) {
	f := opened(t, build("SREC", 200, 100, 3, 4, []byte{1, 2, 3, 0, 0, 0, 1, 4, 5, 0, 0, 0}))
	if f.Kind() != 200 || f.Version() != 100 || f.Size() != 3 {
		t.Errorf("Kind %d, Version %d, Size %d", f.Kind(), f.Version(), f.Size())
	}
	wantCounts(t, f, 4, 2)
	wantGet(t, f, 0, []byte{2, 3})
	wantNone(t, f, 1)
	wantGet(t, f, 2, []byte{4, 5})
	wantNone(t, f, 3)
	for _, id := range []int{1, 3, 4} {
		wantAlloc(t, f, id, api.OK)
	}
	wantCounts(t, f, 5, 5)
}

// P9.4

func TestEdgesOfIds(t *testing.T) {
	f := made(t, 1, 1, 3)
	data := []byte{1, 2}
	for _, id := range []int{math.MinInt, -65536, -1, 65536, 65537, 1 << 31, 1 << 32, 1<<62 + 1, math.MaxInt} {
		wantErrno(t, "Put", f.Put(id, data), api.ErrId)
		wantErrno(t, "Put of too much", f.Put(id, []byte{1, 2, 3}), api.ErrId)
		wantErrno(t, "Free", f.Free(id), api.ErrId)
		wantNone(t, f, id)
	}
	for _, wrong := range [][]byte{nil, {}, {1}, {1, 2, 3}, make([]byte, 255), make([]byte, 258)} {
		wantErrno(t, "Put of a wrong size", f.Put(0, wrong), api.ErrSize)
		wantErrno(t, "Put of a wrong size", f.Put(65535, wrong), api.ErrSize)
	}
	wantCounts(t, f, 0, 0)
	wantErrno(t, "Free", f.Free(0), api.ErrId)

	wantErrno(t, "Put of the last", f.Put(65535, data), api.OK)
	wantCounts(t, f, 65536, 1)
	wantGet(t, f, 65535, data)
	wantNone(t, f, 65534)
	wantAlloc(t, f, 0, api.OK)
	wantErrno(t, "Free of the last", f.Free(65535), api.OK)
	wantErrno(t, "Free of the last once more", f.Free(65535), api.ErrId)
	wantNone(t, f, 65535)
	wantCounts(t, f, 65536, 1)
	wantOpen(t, f.Bytes(), api.OK)
}

// A call that returns an error changes nothing, and a Put to a record in use replaces its contents.
func TestPut(t *testing.T) {
	f := made(t, 1, 1, 3)
	f.Put(2, []byte{1, 2})
	before := f.Bytes()
	f.Put(2, []byte{9})
	f.Put(9, []byte{9})
	f.Put(-1, []byte{9, 9})
	f.Free(0)
	f.Free(3)
	wantBytes(t, "Bytes after errors", f.Bytes(), before)
	wantErrno(t, "Put", f.Put(2, []byte{3, 4}), api.OK)
	wantGet(t, f, 2, []byte{3, 4})
	wantCounts(t, f, 3, 1)
	wantErrno(t, "Free", f.Free(2), api.OK)
	wantCounts(t, f, 3, 0)
	wantBytes(t, "the records", f.Bytes()[16:], make([]byte, 9))
	wantErrno(t, "Put", f.Put(2, []byte{5, 6}), api.OK)
	wantCounts(t, f, 3, 1)
}

// All records at once; and those that are given back are taken again from the least on.
func TestFullFile(t *testing.T) {
	for _, size := range []int{2, 255} {
		f := made(t, 1, 1, size)
		for id := range 65536 {
			if got, e := f.Alloc(); got != id || e != api.OK {
				t.Fatalf("Alloc = %d, %v, want %d", got, e, id)
			}
		}
		wantAlloc(t, f, 0, api.ErrFull)
		wantCounts(t, f, 65536, 65536)
		before := f.Bytes()
		wantErrno(t, "Put", f.Put(65536, make([]byte, size-1)), api.ErrId)
		wantAlloc(t, f, 0, api.ErrFull)
		wantBytes(t, "Bytes after errors", f.Bytes(), before)
		f = opened(t, before)
		wantAlloc(t, f, 0, api.ErrFull)

		for _, id := range []int{65535, 7, 40000} {
			wantErrno(t, "Free", f.Free(id), api.OK)
		}
		wantCounts(t, f, 65536, 65533)
		wantErrno(t, "Put", f.Put(40000, make([]byte, size-1)), api.OK)
		wantAlloc(t, f, 7, api.OK)
		wantAlloc(t, f, 65535, api.OK)
		wantAlloc(t, f, 0, api.ErrFull)
	}
}

// Many records that are given back in any order, and taken again from the least on.
func TestManyRecords(t *testing.T) {
	f := made(t, 1, 1, 2)
	r := rand.New(rand.NewSource(1))
	for range 65536 {
		f.Alloc()
	}
	for range 3 {
		ids := r.Perm(65536)[:30000]
		for _, id := range ids {
			f.Free(id)
		}
		slices.Sort(ids)
		for _, id := range ids {
			wantAlloc(t, f, id, api.OK)
		}
	}
}

// P9.5

func TestAll(t *testing.T) {
	f := made(t, 1, 1, 2)
	for range f.All() {
		t.Error("a step in an empty file")
	}
	for _, id := range []int{5, 0, 9, 3} {
		f.Put(id, []byte{byte(10 + id)})
	}
	f.Free(3)
	all := f.All()
	for range 2 {
		var ids []int
		for id, c := range all {
			ids = append(ids, id)
			wantBytes(t, "the contents", c, []byte{byte(10 + id)})
		}
		if !slices.Equal(ids, []int{0, 5, 9}) {
			t.Errorf("All: %v", ids)
		}
		for id := range all { // it stops at the first, and begins there again
			if id != 0 {
				t.Errorf("All begins with %d", id)
			}
			break
		}
	}
	f.Put(1, []byte{11})
	f.Free(5)
	var ids []int
	for id := range all { // which is older than the last changes
		ids = append(ids, id)
	}
	if !slices.Equal(ids, []int{0, 1, 9}) {
		t.Errorf("All after changes: %v", ids)
	}
}

// What a step does shows in the next one: what is behind it counts, what is before it doesn't.
func TestAllSeesChanges(t *testing.T) {
	for _, c := range []struct {
		name   string
		change func(*recfile.File)
		want   []int
	}{
		{"nothing", func(f *recfile.File) {}, []int{2, 4, 6}},
		{"the record itself is freed", func(f *recfile.File) { f.Free(4) }, []int{2, 4, 6}},
		{"the next is freed", func(f *recfile.File) { f.Free(6) }, []int{2, 4}},
		{"one before it", func(f *recfile.File) { f.Put(3, []byte{1}); f.Put(0, []byte{1}) }, []int{2, 4, 6}},
		{"one behind it", func(f *recfile.File) { f.Put(5, []byte{1}) }, []int{2, 4, 5, 6}},
		{"the last one", func(f *recfile.File) { f.Put(65535, []byte{1}) }, []int{2, 4, 6, 65535}},
		{"the next is freed, and one behind the end", func(f *recfile.File) { f.Free(6); f.Put(7, []byte{1}) }, []int{2, 4, 7}},
		{"Alloc before it", func(f *recfile.File) { f.Alloc() }, []int{2, 4, 6}},
		{"Alloc behind it", func(f *recfile.File) {
			for range 4 {
				f.Alloc()
			}
		}, []int{2, 4, 5, 6}},
		{"freed and put", func(f *recfile.File) { f.Free(4); f.Put(4, []byte{1}); f.Free(6); f.Put(6, []byte{1}) }, []int{2, 4, 6}},
	} {
		f := made(t, 1, 1, 2)
		for _, id := range []int{2, 4, 6} {
			f.Put(id, []byte{byte(id)})
		}
		var ids []int
		for id := range f.All() {
			if id == 4 {
				c.change(f)
			}
			ids = append(ids, id)
		}
		if !slices.Equal(ids, c.want) {
			t.Errorf("%s: %v, want %v", c.name, ids, c.want)
		}
	}
	f := made(t, 1, 1, 2)
	f.Put(0, []byte{1})
	f.Put(1, []byte{2})
	for id, c := range f.All() {
		if id == 0 {
			f.Put(1, []byte{3})
		} else {
			wantBytes(t, "the contents that the step before has put", c, []byte{3})
		}
	}
}

// Two iterations at once, of which one is stopped within the other.
func TestTwoIterations(t *testing.T) {
	f := made(t, 1, 1, 2)
	for range 4 {
		f.Alloc()
	}
	all := f.All()
	var ids []int
	for i := range all {
		for j := range all {
			if j > i {
				break
			}
			ids = append(ids, 10*i+j)
		}
	}
	if !slices.Equal(ids, []int{0, 10, 11, 20, 21, 22, 30, 31, 32, 33}) {
		t.Errorf("two iterations: %v", ids)
	}
}

// P9.2, P9.4, P9.6

func TestMemory(t *testing.T) {
	original := build("SREC", 1, 1, 3, 3, []byte{1, 2, 3, 0, 0, 0, 1, 4, 5})
	b := roomy(original)
	f := opened(t, b)
	f.Put(0, []byte{8, 9})
	f.Alloc()
	f.Alloc()
	wantIntact(t, "Open or a later call", b, original)
	smudge(b)
	want := build("SREC", 1, 1, 3, 4, []byte{1, 8, 9, 1, 0, 0, 1, 4, 5, 1, 0, 0})
	wantBytes(t, "Bytes after Open's argument has changed", f.Bytes(), want)

	data := roomy([]byte{2, 3})
	f.Put(0, data)
	wantIntact(t, "Put", data, []byte{2, 3})
	smudge(data)
	want[17], want[18] = 2, 3
	wantBytes(t, "Bytes after Put's argument has changed", f.Bytes(), want)

	first, _ := f.Get(0)
	second, _ := f.Get(0)
	smudge(first)
	wantBytes(t, "a second result of Get", second, []byte{2, 3})
	wantGet(t, f, 0, []byte{2, 3})
	f.Put(0, []byte{6, 7})
	wantBytes(t, "a result of Get, after Put", second, []byte{2, 3})
	f.Put(0, []byte{2, 3})

	whole := f.Bytes()
	smudge(whole)
	wantBytes(t, "Bytes after its first result has changed", f.Bytes(), want)
	whole = f.Bytes()
	f.Free(0)
	wantBytes(t, "a result of Bytes, after Free", whole, want)
	f.Put(0, []byte{2, 3})

	for range 2 {
		for id, c := range f.All() {
			wantBytes(t, "the contents", c, want[17+3*id:19+3*id])
			smudge(c)
			wantGet(t, f, id, want[17+3*id:19+3*id])
		}
	}
	wantBytes(t, "Bytes after All's results have changed", f.Bytes(), want)
	for id, c := range f.All() {
		f.Free(id)
		wantBytes(t, "the contents of a record that is freed", c, want[17+3*id:19+3*id])
	}
}

// Files don't share anything, even if they are made of the same bytes.
func TestFilesAreIndependent(t *testing.T) {
	b := build("SREC", 1, 1, 2, 1, []byte{1, 7})
	f, g := opened(t, b), opened(t, b)
	f.Put(0, []byte{8})
	f.Alloc()
	wantBytes(t, "Bytes of the other", g.Bytes(), b)
	h, i := made(t, 1, 1, 2), made(t, 1, 1, 2)
	h.Alloc()
	wantCounts(t, i, 0, 0)
}
