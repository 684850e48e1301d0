package wire_test

import (
	"bytes"
	"math"
	"testing"

	"satchel/api"
	"satchel/wire"
)

// sample holds eight different bytes, some with their highest bit set.
const sample uint64 = 0x81a2b3c4d5e6f708

// encodings are what sample becomes in each width.
var encodings = map[int][]byte{
	1: {0x08},
	2: {0xf7, 0x08},
	4: {0xd5, 0xe6, 0xf7, 0x08},
	8: {0x81, 0xa2, 0xb3, 0xc4, 0xd5, 0xe6, 0xf7, 0x08},
}

var widths = []int{1, 2, 4, 8}

// badWidths also holds numbers whose low bits are a width.
func badWidths() []int {
	bad := []int{math.MinInt, math.MinInt + 8, -1 << 32, -256, 256, 257, 264, 1<<16 + 2, 1<<32 + 4, 1<<62 + 8, math.MaxInt}
	for w := -70; w <= 70; w++ {
		if w != 1 && w != 2 && w != 4 && w != 8 {
			bad = append(bad, w)
		}
	}
	return bad
}

// smudge overwrites a slice and its spare capacity.
func smudge(b []byte) {
	b = b[:cap(b)]
	for i := range b {
		b[i] ^= 0xff
	}
}

// roomy gives a copy of b with spare capacity, whose bytes are 77.
func roomy(b []byte) []byte {
	r := make([]byte, len(b), len(b)+20)
	copy(r, b)
	spare := r[len(b):cap(r)]
	for i := range spare {
		spare[i] = 77
	}
	return r
}

// wantIntact checks that a slice of roomy is as it was made.
func wantIntact(t *testing.T, r, b []byte) {
	t.Helper()
	if !bytes.Equal(r, b) {
		t.Errorf("argument became %v, was %v", r, b)
	}
	for i, c := range r[len(r):cap(r)] {
		if c != 77 {
			t.Errorf("spare byte %d of an argument became %d", i, c)
		}
	}
}

func wantWritten(t *testing.T, w *wire.Writer, want []byte) {
	t.Helper()
	if w.Len() != len(want) || !bytes.Equal(w.Bytes(), want) {
		t.Errorf("Bytes %v, Len %d, want %v", w.Bytes(), w.Len(), want)
	}
}

// P1.1

func TestWriterBegins(t *testing.T) {
	wantWritten(t, wire.NewWriter(), nil)
}

func TestWritersAreIndependent(t *testing.T) {
	a, b := wire.NewWriter(), wire.NewWriter()
	a.Num(1, 5)
	wantWritten(t, b, nil)
	b.Str("xy")
	a.Raw([]byte{6})
	wantWritten(t, a, []byte{5, 6})
	wantWritten(t, b, []byte("xy"))
	wantWritten(t, wire.NewWriter(), nil)
}

func TestWriterNum(t *testing.T) {
	for _, width := range widths {
		for _, c := range []struct {
			n    uint64
			want []byte
		}{
			{sample, encodings[width]},
			{0, make([]byte, width)},
			{1, append(make([]byte, width-1), 1)},
			{math.MaxUint64, bytes.Repeat([]byte{255}, width)},
		} {
			w := wire.NewWriter()
			w.Num(width, c.n)
			wantWritten(t, w, c.want)
		}
	}
}

func TestWriterNumModulo(t *testing.T) {
	w := wire.NewWriter()
	w.Num(2, 258)
	w.Num(1, 258)
	w.Num(1, 256)
	w.Num(2, 1<<16+3)
	w.Num(4, 1<<32+4)
	wantWritten(t, w, []byte{1, 2, 2, 0, 0, 3, 0, 0, 0, 4})
}

func TestWriterNumBadWidth(t *testing.T) {
	for _, width := range badWidths() {
		w := wire.NewWriter()
		w.Num(1, 9)
		w.Num(width, sample)
		wantWritten(t, w, []byte{9})
		w.Num(2, 258)
		wantWritten(t, w, []byte{9, 1, 2})
	}
}

func TestWriterRawAndStr(t *testing.T) {
	w := wire.NewWriter()
	w.Raw(nil)
	w.Raw([]byte{})
	w.Str("")
	wantWritten(t, w, nil)
	w.Raw([]byte{0, 255, 1})
	w.Str("a\x00\xff\xc3é")
	w.Raw([]byte{2})
	w.Str("")
	w.Raw(nil)
	wantWritten(t, w, []byte{0, 255, 1, 'a', 0, 255, 0xc3, 0xc3, 0xa9, 2})
}

func TestWriterRawLeavesItsArgument(t *testing.T) {
	b := roomy([]byte{1, 2, 3})
	w := wire.NewWriter()
	w.Raw(b)
	w.Num(4, 0)
	wantIntact(t, b, []byte{1, 2, 3})
	smudge(b)
	wantWritten(t, w, []byte{1, 2, 3, 0, 0, 0, 0})
}

func TestWriterBytesIsNewMemory(t *testing.T) {
	w := wire.NewWriter()
	w.Str("abcde")
	first, second := w.Bytes(), w.Bytes()
	smudge(first)
	if string(second) != "abcde" {
		t.Errorf("a second result became %q", second)
	}
	wantWritten(t, w, []byte("abcde"))
	w.Str("fgh")
	if string(second) != "abcde" {
		t.Errorf("after more writing an older result became %q", second)
	}
	smudge(second)
	wantWritten(t, w, []byte("abcdefgh"))
}

func TestWriterLong(t *testing.T) {
	w := wire.NewWriter()
	var want []byte
	for i := range 20000 {
		w.Num(2, uint64(i))
		w.Raw([]byte{byte(i)})
		want = append(want, byte(i>>8), byte(i), byte(i))
		if w.Len() != len(want) {
			t.Fatalf("Len %d, want %d", w.Len(), len(want))
		}
	}
	wantWritten(t, w, want)
}

// P1.2 and P1.3

// wantState asks everything twice: asking must change nothing.
func wantState(t *testing.T, r *wire.Reader, left int, err, end api.Errno) {
	t.Helper()
	for range 2 {
		if r.Left() != left || r.Err() != err || r.End() != end {
			t.Errorf("Left %d, Err %v, End %v, want %d, %v, %v", r.Left(), r.Err(), r.End(), left, err, end)
		}
	}
}

func wantNum(t *testing.T, r *wire.Reader, width int, want uint64) {
	t.Helper()
	if n := r.Num(width); n != want {
		t.Errorf("Num(%d) = %#x, want %#x", width, n, want)
	}
}

func wantRaw(t *testing.T, r *wire.Reader, n int, want ...byte) {
	t.Helper()
	if b := r.Raw(n); !bytes.Equal(b, want) {
		t.Errorf("Raw(%d) = %v, want %v", n, b, want)
	}
}

// wantFailed checks that every further read returns nothing and leaves the first error.
func wantFailed(t *testing.T, r *wire.Reader, e api.Errno) {
	t.Helper()
	wantState(t, r, 0, e, e)
	for _, width := range append(badWidths(), widths...) {
		wantNum(t, r, width, 0)
	}
	for _, n := range []int{0, 1, 2, 100, -1, math.MinInt, math.MaxInt} {
		wantRaw(t, r, n)
	}
	wantState(t, r, 0, e, e)
}

func TestReaderNum(t *testing.T) {
	for _, width := range widths {
		for _, c := range []struct {
			b    []byte
			want uint64
		}{
			{encodings[width], sample & (math.MaxUint64 >> (64 - 8*width))},
			{make([]byte, width), 0},
			{bytes.Repeat([]byte{255}, width), math.MaxUint64 >> (64 - 8*width)},
		} {
			r := wire.NewReader(c.b)
			wantState(t, r, width, api.OK, api.ErrTail)
			wantNum(t, r, width, c.want)
			wantState(t, r, 0, api.OK, api.OK)
		}
	}
}

func TestReaderReadsInOrder(t *testing.T) {
	r := wire.NewReader([]byte{1, 0, 2, 0, 0, 0, 3, 9, 8, 7, 0, 0, 0, 0, 0, 0, 0, 4, 6})
	wantNum(t, r, 1, 1)
	wantState(t, r, 18, api.OK, api.ErrTail)
	wantNum(t, r, 2, 2)
	wantState(t, r, 16, api.OK, api.ErrTail)
	wantNum(t, r, 4, 3)
	wantState(t, r, 12, api.OK, api.ErrTail)
	wantRaw(t, r, 0)
	wantRaw(t, r, 3, 9, 8, 7)
	wantState(t, r, 9, api.OK, api.ErrTail)
	wantNum(t, r, 8, 4)
	wantState(t, r, 1, api.OK, api.ErrTail)
	wantRaw(t, r, 1, 6)
	wantState(t, r, 0, api.OK, api.OK)
	wantRaw(t, r, 0)
	wantState(t, r, 0, api.OK, api.OK)
}

func TestReaderOfNothing(t *testing.T) {
	for _, b := range [][]byte{nil, {}} {
		r := wire.NewReader(b)
		wantState(t, r, 0, api.OK, api.OK)
		wantRaw(t, r, 0)
		wantState(t, r, 0, api.OK, api.OK)
		wantNum(t, r, 1, 0)
		wantFailed(t, r, api.ErrShort)
	}
}

func TestReaderBadWidth(t *testing.T) {
	for _, width := range badWidths() {
		for _, n := range []int{0, 1, 3, 100} {
			r := wire.NewReader(bytes.Repeat([]byte{1}, n))
			wantNum(t, r, width, 0)
			wantFailed(t, r, api.ErrArg)
		}
	}
}

func TestReaderNumShort(t *testing.T) {
	for _, width := range widths {
		for n := range width {
			r := wire.NewReader(bytes.Repeat([]byte{1}, n))
			wantState(t, r, n, api.OK, endOf(n))
			wantNum(t, r, width, 0)
			wantFailed(t, r, api.ErrShort)
		}
	}
}

func endOf(left int) api.Errno {
	if left > 0 {
		return api.ErrTail
	}
	return api.OK
}

func TestReaderShortBehindReads(t *testing.T) {
	r := wire.NewReader([]byte{0, 5, 9})
	wantNum(t, r, 2, 5)
	wantState(t, r, 1, api.OK, api.ErrTail)
	wantNum(t, r, 4, 0)
	wantFailed(t, r, api.ErrShort)
}

func TestReaderRawFails(t *testing.T) {
	for _, c := range []struct {
		n int
		e api.Errno
	}{
		{4, api.ErrShort}, {5, api.ErrShort}, {math.MaxInt, api.ErrShort},
		{-1, api.ErrArg}, {-3, api.ErrArg}, {math.MinInt, api.ErrArg},
	} {
		r := wire.NewReader([]byte{1, 2, 3})
		wantRaw(t, r, c.n)
		wantFailed(t, r, c.e)
	}
	r := wire.NewReader(nil)
	wantRaw(t, r, -1)
	wantFailed(t, r, api.ErrArg)
	r = wire.NewReader([]byte{1, 2, 3})
	wantRaw(t, r, 2, 1, 2)
	wantRaw(t, r, 2)
	wantFailed(t, r, api.ErrShort)
}

func TestReaderReadsACopy(t *testing.T) {
	b := roomy([]byte{1, 2, 3, 4})
	r := wire.NewReader(b)
	wantNum(t, r, 1, 1)
	wantIntact(t, b, []byte{1, 2, 3, 4})
	smudge(b)
	wantNum(t, r, 1, 2)
	wantRaw(t, r, 2, 3, 4)
}

// A slice with spare capacity has no more bytes than its length.
func TestReaderSpareCapacity(t *testing.T) {
	r := wire.NewReader(roomy([]byte{1, 2}))
	wantState(t, r, 2, api.OK, api.ErrTail)
	wantNum(t, r, 4, 0)
	wantFailed(t, r, api.ErrShort)
	r = wire.NewReader(roomy([]byte{1, 2}))
	wantRaw(t, r, 3)
	wantFailed(t, r, api.ErrShort)
}

func TestReaderRawIsNewMemory(t *testing.T) {
	b := []byte{1, 2, 3, 4, 5, 6}
	r := wire.NewReader(b)
	first := r.Raw(2)
	smudge(first)
	second := r.Raw(2)
	smudge(first)
	if !bytes.Equal(second, []byte{3, 4}) {
		t.Errorf("a second result became %v", second)
	}
	smudge(second)
	wantRaw(t, r, 2, 5, 6)
	if !bytes.Equal(b, []byte{1, 2, 3, 4, 5, 6}) {
		t.Errorf("the argument became %v", b)
	}
}

func TestReadersAreIndependent(t *testing.T) {
	b := []byte{1, 2}
	x, y := wire.NewReader(b), wire.NewReader(b)
	wantNum(t, x, 4, 0)
	wantState(t, y, 2, api.OK, api.ErrTail)
	wantNum(t, y, 2, 258)
	wantState(t, y, 0, api.OK, api.OK)
	wantState(t, x, 0, api.ErrShort, api.ErrShort)
}

func TestReaderReadsWhatAWriterWrote(t *testing.T) {
	w := wire.NewWriter()
	for _, width := range widths {
		w.Num(width, sample)
		w.Str("ab")
	}
	r := wire.NewReader(w.Bytes())
	for _, width := range widths {
		wantNum(t, r, width, sample&(math.MaxUint64>>(64-8*width)))
		wantRaw(t, r, 2, 'a', 'b')
	}
	wantState(t, r, 0, api.OK, api.OK)
}

// P1.4 and P1.5

var places = []struct {
	at, width int
	n         uint64
	e         api.Errno
}{
	{0, 1, 1, api.OK},
	{1, 1, 0, api.OK},
	{2, 1, 200, api.OK},
	{0, 2, 256, api.OK},
	{1, 2, 200, api.OK},
	{2, 2, 0, api.ErrShort},
	{3, 1, 0, api.ErrShort},
	{4, 1, 0, api.ErrShort},
	{3, 2, 0, api.ErrShort},
	{0, 4, 0, api.ErrShort},
	{0, 8, 0, api.ErrShort},
	{1 << 32, 1, 0, api.ErrShort},
	{math.MaxInt, 1, 0, api.ErrShort},
	{math.MaxInt, 8, 0, api.ErrShort},
	{math.MaxInt - 7, 8, 0, api.ErrShort},
	{-1, 1, 0, api.ErrArg},
	{-1, 2, 0, api.ErrArg},
	{-8, 8, 0, api.ErrArg},
	{math.MinInt, 1, 0, api.ErrArg},
	{math.MinInt, 8, 0, api.ErrArg},
	{-1, 3, 0, api.ErrArg},
	{0, 0, 0, api.ErrArg},
	{0, 3, 0, api.ErrArg},
	{5, 3, 0, api.ErrArg},
	{math.MaxInt, -1, 0, api.ErrArg},
}

func TestGetPlaces(t *testing.T) {
	for _, c := range places {
		b := roomy([]byte{1, 0, 200})
		if n, e := wire.Get(b, c.at, c.width); n != c.n || e != c.e {
			t.Errorf("Get(%d, %d) = %d, %v, want %d, %v", c.at, c.width, n, e, c.n, c.e)
		}
		wantIntact(t, b, []byte{1, 0, 200})
	}
}

func TestGetWidths(t *testing.T) {
	for _, width := range widths {
		b := append([]byte{255, 255}, encodings[width]...)
		want := sample & (math.MaxUint64 >> (64 - 8*width))
		if n, e := wire.Get(b, 2, width); n != want || e != api.OK {
			t.Errorf("Get in %d bytes = %#x, %v", width, n, e)
		}
		if n, e := wire.Get(b, 3, width); n != 0 || e != api.ErrShort {
			t.Errorf("Get in %d bytes, one too few = %#x, %v", width, n, e)
		}
		if n, e := wire.Get(nil, 0, width); n != 0 || e != api.ErrShort {
			t.Errorf("Get of nothing = %#x, %v", n, e)
		}
	}
}

func TestGetAndSetBadWidth(t *testing.T) {
	for _, width := range badWidths() {
		for _, at := range []int{math.MinInt, -1, 0, 1, 40, 41, math.MaxInt} {
			if n, e := wire.Get(make([]byte, 40), at, width); n != 0 || e != api.ErrArg {
				t.Errorf("Get(%d, %d) = %d, %v", at, width, n, e)
			}
			if b, e := wire.Set(make([]byte, 40), at, width, 1); len(b) != 0 || e != api.ErrArg {
				t.Errorf("Set(%d, %d) = %v, %v", at, width, b, e)
			}
		}
	}
}

func TestSetPlaces(t *testing.T) {
	for _, c := range places {
		b := roomy([]byte{1, 0, 200})
		out, e := wire.Set(b, c.at, c.width, 7)
		wantIntact(t, b, []byte{1, 0, 200})
		if e != c.e {
			t.Errorf("Set(%d, %d): %v, want %v", c.at, c.width, e, c.e)
		}
		if e != api.OK && len(out) != 0 {
			t.Errorf("Set(%d, %d) = %v beside an error", c.at, c.width, out)
		}
		if n, _ := wire.Get(out, c.at, c.width); c.e == api.OK && n != 7 {
			t.Errorf("Set(%d, %d) = %v", c.at, c.width, out)
		}
	}
}

func TestSetLeavesTheRest(t *testing.T) {
	old := []byte{10, 11, 12, 13, 14, 15, 16, 17, 18, 19, 20}
	for _, width := range widths {
		for at := 0; at+width <= len(old); at++ {
			want := bytes.Clone(old)
			copy(want[at:], encodings[width])
			if out, e := wire.Set(old, at, width, sample); e != api.OK || !bytes.Equal(out, want) {
				t.Errorf("Set(%d, %d) = %v, %v, want %v", at, width, out, e, want)
			}
		}
	}
}

func TestSetModulo(t *testing.T) {
	for _, c := range []struct {
		at, width int
		n         uint64
		want      []byte
	}{
		{1, 1, 7, []byte{1, 7, 3}},
		{1, 1, 258, []byte{1, 2, 3}},
		{0, 2, 258, []byte{1, 2, 3}},
		{1, 2, 1<<16 + 4, []byte{1, 0, 4}},
		{2, 1, math.MaxUint64, []byte{1, 2, 255}},
	} {
		if b, e := wire.Set([]byte{1, 2, 3}, c.at, c.width, c.n); e != api.OK || !bytes.Equal(b, c.want) {
			t.Errorf("Set(%d, %d, %d) = %v, %v, want %v", c.at, c.width, c.n, b, e, c.want)
		}
	}
}

func TestSetIsNewMemory(t *testing.T) {
	b := roomy([]byte{1, 2, 3})
	first, _ := wire.Set(b, 0, 1, 9)
	second, _ := wire.Set(b, 0, 1, 9)
	smudge(first)
	wantIntact(t, b, []byte{1, 2, 3})
	smudge(b)
	if !bytes.Equal(second, []byte{9, 2, 3}) {
		t.Errorf("a result became %v", second)
	}
}

// P1 and P2

// answers gathers what a series of calls with all kinds of arguments returns.
func answers() []uint64 {
	var all []uint64
	numbers := append(badWidths(), widths...)
	b := []byte{1, 2, 3, 4, 5, 6, 7, 8, 9, 10}
	for _, n := range numbers {
		w := wire.NewWriter()
		w.Num(n, sample)
		w.Raw(b)
		all = append(all, uint64(w.Len()), uint64(len(w.Bytes())))
		for _, at := range numbers {
			got, e := wire.Get(b, at, n)
			set, f := wire.Set(b, at, n, sample)
			r := wire.NewReader(b)
			all = append(all, got, uint64(e), uint64(len(set)), uint64(f))
			all = append(all, r.Num(n), uint64(len(r.Raw(at))), uint64(r.Left()), uint64(r.Err()), uint64(r.End()))
		}
	}
	return all
}

func TestCallsEndAndRepeat(t *testing.T) {
	first, second := answers(), answers()
	for i := range first {
		if first[i] != second[i] {
			t.Fatalf("answer %d: %d, then %d", i, first[i], second[i])
		}
	}
}
