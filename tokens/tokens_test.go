package tokens_test

import (
	"bytes"
	"encoding/binary"
	"hash/crc32"
	"math"
	"slices"
	"strconv"
	"strings"
	"testing"

	"satchel/api"
	"satchel/tokens"
)

// edges are kinds and versions, of which few are right.
var edges = []int{math.MinInt, -256, -255, -1, 0, 1, 2, 3, 4, 5, 255, 256, 257, 258, 65537, 1 << 32, 1<<32 + 1, math.MaxInt}

func argsError(kind, version int) api.Errno {
	if kind < 1 || kind > 3 || version != 1 && version != 2 {
		return api.ErrArg
	}
	return api.OK
}

func wantErrno(t *testing.T, what string, got, want api.Errno) {
	t.Helper()
	if got != want {
		t.Errorf("%s: %v, want %v", what, got, want)
	}
}

// P11.1

func TestNew(t *testing.T) {
	for _, kind := range edges {
		for _, version := range edges {
			want := argsError(kind, version)
			x, e := tokens.New(kind, version)
			if e != want || (x == nil) != (want != api.OK) {
				t.Fatalf("New(%d, %d): %v, %v, want %v", kind, version, x, e, want)
			}
			if x != nil {
				p := &pair{x: x, m: &model{kind: kind, version: version, names: map[int]string{}}}
				p.compare(t, "a")
			}
		}
	}
}

func TestTablesAreIndependent(t *testing.T) {
	b := build(1, 1, 42, record("a"))
	a, c, d := newPair(t, 1, 1), newPair(t, 1, 1), opened(t, b, 1, 1)
	other := opened(t, b, 1, 1)
	a.play(t, intern("x"), intern("y"))
	c.play(t, intern("y"), forget(0), intern("z"))
	a.compare(t, "z")
	c.compare(t, "x", "y")
	d.Intern("b")
	d.Forget(0)
	if !slices.Equal(collect(other), []entry{{0, "a"}}) || !slices.Equal(collect(d), []entry{{1, "b"}}) {
		t.Errorf("tables of the same bytes: %v, %v", collect(other), collect(d))
	}
}

// P11.3, P11.5: the document's examples

func TestExamples(t *testing.T) {
	p := newPair(t, 1, 1)
	p.play(t, intern("B"), intern("A"), intern("B"))
	if id, found := p.x.Find("A"); id != 1 || !found {
		t.Errorf("Find: %d, %t", id, found)
	}
	p.play(t, forget(0))
	if id, e := p.x.Intern("C"); id != 0 || e != api.OK || p.x.Len() != 2 {
		t.Errorf("Intern behind Forget: %d, %v", id, e)
	}
	q := newPair(t, 3, 2)
	q.play(t, intern("ab"))
	if b := q.x.Bytes()[16:]; !bytes.Equal(b, append([]byte{1, 2, 97, 98}, make([]byte, 38)...)) {
		t.Errorf("the record of ab: %v", b)
	}
}

// P11.2

// wrong is the error of Open, written down from the document; b has at least a header.
func wrong(b []byte, kind, version int) api.Errno {
	if e := argsError(kind, version); e != api.OK {
		return e
	}
	size, count := int(binary.BigEndian.Uint16(b[6:])), int(binary.BigEndian.Uint32(b[8:]))
	switch {
	case string(b[:4]) != "SREC":
		return api.ErrMagic
	case binary.BigEndian.Uint32(b[12:]) != crc32.ChecksumIEEE(b[:12]):
		return api.ErrSum
	case size < 2 || size > 255:
		return api.ErrSize
	case count > 65536 || len(b) != 16+size*count:
		return api.ErrCount
	}
	for record := range slices.Chunk(b[16:], size) {
		if record[0] > 1 {
			return api.ErrFlag
		}
		if record[0] == 0 && slices.Max(record) > 0 {
			return api.ErrFree
		}
	}
	switch {
	case b[4] != byte(kind) || size != 42:
		return api.ErrFile
	case b[5] != byte(version):
		return api.ErrVersion
	case count > 200:
		return api.ErrTokens
	}
	var names []string
	for record := range slices.Chunk(b[16:], size) {
		if record[0] == 0 {
			continue
		}
		length := int(record[1])
		if length > 40 || !isName(string(record[2:2+length])) || strings.Trim(string(record[2+length:]), "\x00") != "" {
			return api.ErrToken
		}
		if slices.Contains(names, string(record[2:2+length])) {
			return api.ErrTwice
		}
		names = append(names, string(record[2:2+length]))
	}
	return api.OK
}

// wantOpen opens b, and checks that the table has these bytes if nothing is wrong with them.
func wantOpen(t *testing.T, b []byte, kind, version int, want api.Errno) {
	t.Helper()
	x, e := tokens.Open(b, kind, version)
	if e != want || (x == nil) != (want != api.OK) {
		t.Fatalf("Open of %d bytes, %q, %d, %d: %v, %v, want %v", len(b), b[:min(len(b), 99)], kind, version, x, e, want)
	}
	if x != nil && !bytes.Equal(x.Bytes(), b) {
		t.Fatalf("Open of %d bytes, %q: Bytes %q", len(b), b, x.Bytes())
	}
}

func TestOpenOfArguments(t *testing.T) {
	for _, kind := range edges {
		for _, version := range edges {
			for fileKind := range 5 {
				for fileVersion := range 4 {
					b := build(fileKind, fileVersion, 42, record("a"))
					wantOpen(t, b, kind, version, wrong(b, kind, version))
				}
			}
			want := argsError(kind, version)
			if want == api.OK {
				want = api.ErrShort
			}
			wantOpen(t, nil, kind, version, want)
			wantOpen(t, []byte("no file at all"), kind, version, want)
		}
	}
}

// bad is a record in use with any length byte and any bytes behind it, which are padded with zeros.
func bad(length int, bytes string) []byte {
	b := make([]byte, 42)
	b[0], b[1] = 1, byte(length)
	copy(b[2:], bytes)
	return b
}

// numbered gives n records of names that differ.
func numbered(n int) [][]byte {
	var records [][]byte
	for i := range n {
		records = append(records, record("n"+strconv.Itoa(i)))
	}
	return records
}

func TestOpenOfRecords(t *testing.T) {
	long := strings.Repeat("x", 40)
	for _, c := range []struct {
		name    string
		records [][]byte
		want    api.Errno
	}{
		{"none", nil, api.OK},
		{"one", [][]byte{record("a")}, api.OK},
		{"none in use", [][]byte{record(""), record("")}, api.OK},
		{"gaps", [][]byte{record(""), record("b"), record(""), record("a"), record("")}, api.OK},
		{"the longest name", [][]byte{record(long)}, api.OK},
		{"long names that differ at their ends", [][]byte{record(long), record(long[1:] + "y"), record(long[1:])}, api.OK},
		{"names that begin alike", [][]byte{record("ab"), record("a"), record("abc")}, api.OK},
		{"letters of both sizes", [][]byte{record("a"), record("A"), record("_")}, api.OK},
		{"no length", [][]byte{bad(0, "")}, api.ErrToken},
		{"no length, but a name", [][]byte{bad(0, "a")}, api.ErrToken},
		{"a length above 40", [][]byte{bad(41, long)}, api.ErrToken},
		{"the greatest length", [][]byte{bad(255, long)}, api.ErrToken},
		{"a length beyond the name", [][]byte{bad(2, "a")}, api.ErrToken},
		{"a length within the name", [][]byte{bad(1, "ab")}, api.ErrToken},
		{"39 of 40 bytes", [][]byte{bad(39, long)}, api.ErrToken},
		{"a byte at the end", [][]byte{bad(1, "a"+strings.Repeat("\x00", 38)+"b")}, api.ErrToken},
		{"a digit first", [][]byte{bad(2, "9a")}, api.ErrToken},
		{"a space", [][]byte{bad(3, "a b")}, api.ErrToken},
		{"a letter beyond ASCII", [][]byte{bad(2, "é")}, api.ErrToken},
		{"twice", [][]byte{record("a"), record("a")}, api.ErrTwice},
		{"twice, far apart", [][]byte{record("b"), record("a"), record(""), record("c"), record("b")}, api.ErrTwice},
		{"ErrTwice before ErrToken", [][]byte{record("a"), record("a"), bad(1, "9")}, api.ErrTwice},
		{"ErrToken before ErrTwice", [][]byte{record("a"), bad(1, "9"), record("a")}, api.ErrToken},
		{"a bad name twice", [][]byte{bad(1, "9"), bad(1, "9")}, api.ErrToken},
		{"a byte of one that isn't in use", [][]byte{append([]byte{0}, record("a")[1:]...)}, api.ErrFree},
		{"flag 2", [][]byte{append([]byte{2}, record("a")[1:]...)}, api.ErrFlag},
		{"200 names", numbered(200), api.OK},
		{"200 records, one name", append(slices.Repeat([][]byte{record("")}, 199), record("a")), api.OK},
		{"201 names", numbered(201), api.ErrTokens},
		{"201 records, no name", slices.Repeat([][]byte{record("")}, 201), api.ErrTokens},
		{"201 records, one name", append(slices.Repeat([][]byte{record("")}, 200), record("a")), api.ErrTokens},
		{"201 records, bad names", slices.Repeat([][]byte{bad(1, "9")}, 201), api.ErrTokens},
		{"the most records of a file", slices.Repeat([][]byte{record("")}, 65536), api.ErrTokens},
		{"more records than a file has", slices.Repeat([][]byte{record("")}, 65537), api.ErrCount},
	} {
		t.Run(c.name, func(t *testing.T) {
			b := build(2, 1, 42, c.records...)
			wantErrno(t, "the test's own", wrong(b, 2, 1), c.want)
			wantOpen(t, b, 2, 1, c.want)
			// Records come after all that the header tells.
			if c.want != api.ErrFlag && c.want != api.ErrFree && c.want != api.ErrCount {
				wantOpen(t, b, 1, 1, api.ErrFile)
				wantOpen(t, b, 2, 2, api.ErrVersion)
			}
		})
	}
}

func TestOpenOfOtherSizes(t *testing.T) {
	for size := 2; size < 256; size++ {
		want := api.ErrFile
		if size == 42 {
			want = api.OK
		}
		wantOpen(t, build(1, 1, size), 1, 1, want)
		b := make([]byte, max(size, 42))
		copy(b, record("a"))
		b = build(1, 1, size, b[:size])
		wantOpen(t, b, 1, 1, wrong(b, 1, 1))
		// The size comes before the version, and the file before both.
		if size != 42 {
			wantOpen(t, build(1, 3, size, make([]byte, size)), 1, 1, api.ErrFile)
			wantOpen(t, build(1, 3, size, append([]byte{7}, make([]byte, size-1)...)), 1, 1, api.ErrFlag)
		}
	}
}

// fixed is a copy of b with the right checksum.
func fixed(b []byte) []byte {
	b = slices.Clone(b)
	copy(b[12:], binary.BigEndian.AppendUint32(nil, crc32.ChecksumIEEE(b[:12])))
	return b
}

// Every change of a byte, with the checksum as it was and with the right one; every prefix; some bytes more.
func TestOpenOfChangedBytes(t *testing.T) {
	good := build(3, 2, 42, record("ab"), record(""), record(strings.Repeat("z", 40)), record("aa"))
	for i := range good {
		for change := range 256 {
			b := slices.Clone(good)
			b[i] = byte(change)
			wantOpen(t, b, 3, 2, wrong(b, 3, 2))
			b = fixed(b)
			wantOpen(t, b, 3, 2, wrong(b, 3, 2))
		}
	}
	for n := range len(good) {
		want := api.ErrCount
		if n < 16 {
			want = api.ErrShort
		}
		wantOpen(t, good[:n], 3, 2, want)
	}
	for n := range 90 {
		b := append(slices.Clone(good), make([]byte, n)...)
		wantOpen(t, b, 3, 2, wrong(b, 3, 2))
	}
}

func TestOpenedTableGoesOn(t *testing.T) {
	b := build(3, 1, 42, record(""), record("b"), record(""), record("d"), record(""))
	m := &model{kind: 3, version: 1, count: 5, names: map[int]string{1: "b", 3: "d"}}
	p := &pair{x: opened(t, b, 3, 1), m: m}
	p.compare(t, "a", "c")
	p.play(t, intern("d"), intern("a"), intern("c"), forget(3), intern("b"), intern("e"), intern("f"), intern("g"), forget(5), forget(4), forget(9))
	p.compare(t, "d", "f", "g")
}

func TestOpenKeepsNothing(t *testing.T) {
	b := build(2, 2, 42, record("first"), record("second"))
	arg := append(slices.Clone(b), 77)[:len(b)]
	x := opened(t, arg, 2, 2)
	if !bytes.Equal(arg[:len(b)+1], append(slices.Clone(b), 77)) {
		t.Errorf("Open changed its argument to %q", arg)
	}
	clear(arg)
	if !slices.Equal(collect(x), []entry{{0, "first"}, {1, "second"}}) || !bytes.Equal(x.Bytes(), b) {
		t.Errorf("a table whose bytes were overwritten: %v", collect(x))
	}
}

// P11.3

func TestInternOfNames(t *testing.T) {
	p := newPair(t, 1, 1)
	for c := range 256 {
		p.play(t, intern(string([]byte{byte(c)})), intern(string([]byte{'x', byte(c)})), intern(string([]byte{'x', byte(c), 'y'})))
		p.compare(t, string([]byte{byte(c)}), string([]byte{'x', byte(c)}))
	}
	q := newPair(t, 1, 1)
	for n := range 45 {
		q.play(t, intern(strings.Repeat("L", n)), intern("7"+strings.Repeat("L", n)))
		q.compare(t, strings.Repeat("L", n), strings.Repeat("L", n+1))
	}
	q.play(t, intern(strings.Repeat("L", 300)), intern(strings.Repeat("L", 256+5)), intern("a\x00"))
	q.compare(t, strings.Repeat("L", 300), "L\x00")
}

// full gives a table of as many names as there may be.
func full(t *testing.T) *pair {
	t.Helper()
	p := newPair(t, 2, 2)
	for i := range 200 {
		p.play(t, intern("n"+strconv.Itoa(i)))
	}
	return p
}

func TestFullTable(t *testing.T) {
	p := full(t)
	for range 2 {
		if id, e := p.x.Intern("one_more"); id != 0 || e != api.ErrTokens {
			t.Errorf("Intern of one more: %d, %v", id, e)
		}
		p.play(t, intern("one_more"), intern("n199"), intern("n0"), intern(""), intern("9"))
		p.compare(t, "one_more", "n200")
		p.play(t, forget(77), forget(200), forget(199), forget(77), intern("a"), intern("n77"), intern("b"), forget(77), intern("n77"), forget(199), intern("n199"), intern("n77"))
		p.compare(t, "a", "b")
		p.reopen(t)
	}
	for id := range 200 {
		p.play(t, forget(id))
	}
	p.compare(t, "n0", "n199")
	p.play(t, intern("again"))
	p.compare(t)
}

func TestEdgesOfNumbers(t *testing.T) {
	p := full(t)
	for _, id := range []int{math.MinInt, -65536, -256, -42, -1, 200, 201, 255, 256, 65535, 65536, 1 << 32, 1<<32 + 1, math.MaxInt} {
		if name, found := p.x.Name(id); name != "" || found {
			t.Errorf("Name(%d) = %q, %t", id, name, found)
		}
		wantErrno(t, "Forget", p.x.Forget(id), api.ErrId)
	}
	p.compare(t)
}

// P11.4

func TestAllStopsAndIsUsedAgain(t *testing.T) {
	p := newPair(t, 1, 2)
	p.play(t, intern("a"), intern("b"), intern("c"), intern("d"), intern("e"), forget(1))
	all, want := p.x.All(), p.m.all()
	for n := range len(want) + 1 {
		var got []entry
		for id, name := range all {
			if len(got) == n {
				break
			}
			got = append(got, entry{id, name})
		}
		if !slices.Equal(got, want[:n]) {
			t.Errorf("the first %d names are %v, want %v", n, got, want[:n])
		}
	}
	// One run within another.
	pairs := ""
	for _, a := range all {
		for _, b := range all {
			pairs += a + b + " "
		}
	}
	if pairs != "aa ac ad ae ca cc cd ce da dc dd de ea ec ed ee " {
		t.Errorf("pairs of names: %s", pairs)
	}
}

func TestAllIsOfTheCall(t *testing.T) {
	p := newPair(t, 1, 2)
	none := p.x.All()
	p.play(t, intern("a"), intern("b"), intern("c"))
	all, want := p.x.All(), p.m.all()
	p.play(t, forget(0), intern("x"), forget(2), intern("y"), intern("z"))
	for range 2 {
		var got []entry
		for id, name := range all {
			got = append(got, entry{id, name})
			p.play(t, forget(id), intern("later"))
		}
		if !slices.Equal(got, want) {
			t.Errorf("the names of an earlier table: %v, want %v", got, want)
		}
	}
	for id, name := range none {
		t.Errorf("a name of a table that had none: %d, %q", id, name)
	}
	p.compare(t, "a", "b", "c")
}

// P11.5

func TestBytesAreNewMemory(t *testing.T) {
	p := newPair(t, 1, 1)
	for _, o := range []op{intern("a"), intern("b"), forget(0), forget(1), intern("c")} {
		b := p.x.Bytes()
		b = b[:cap(b)]
		for i := range b {
			b[i] ^= 0xff
		}
		p.compare(t, "a", "b", "c")
		p.play(t, o)
	}
}

// Numbers that once had a name keep their records.
func TestBytesKeepRecords(t *testing.T) {
	p := newPair(t, 1, 1)
	p.play(t, intern("a"), intern("b"), intern("c"), forget(2), forget(1), forget(0))
	for range 2 {
		if b := p.x.Bytes(); !bytes.Equal(b, build(1, 1, 42, record(""), record(""), record(""))) {
			t.Errorf("Bytes = %q", b)
		}
		p.reopen(t)
	}
	p.play(t, intern("d"))
	if b := p.x.Bytes(); !bytes.Equal(b, build(1, 1, 42, record("d"), record(""), record(""))) {
		t.Errorf("Bytes = %q", b)
	}
}
