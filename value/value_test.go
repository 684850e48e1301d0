package value_test

import (
	"bytes"
	"math"
	"slices"
	"strings"
	"testing"

	"satchel/api"
	"satchel/value"
)

// The bits of floats that are near the edge between infinity and NaN, without and with a sign.
const (
	infinity    int64 = 0x7ff0000000000000
	nan         int64 = 0x7ff8000000000000
	minusInf    int64 = infinity | math.MinInt64
	minusNaN    int64 = nan | math.MinInt64
	minusZero   int64 = math.MinInt64
	greatest    int64 = infinity - 1
	firstNaN    int64 = infinity + 1
	lastNaN     int64 = math.MaxInt64
	minusLast   int64 = -1
	minusFirst  int64 = minusInf + 1
	minusFinite int64 = minusInf - 1
)

var goodFloats = []int64{0, 1, minusZero, minusZero + 1, greatest, minusFinite, infinity, minusInf, nan, int64(math.Float64bits(1.5)), int64(math.Float64bits(-2))}

var badFloats = []int64{firstNaN, nan - 1, nan + 1, lastNaN, minusFirst, minusNaN - 1, minusNaN, minusNaN + 1, minusLast, infinity | 1<<51 | 1, infinity | 1<<50}

var goodInts = []int64{0, 1, 2, -1, 255, 256, 258, math.MaxInt64, math.MinInt64, firstNaN, minusNaN, minusLast}

var badBools = []int64{2, -1, 3, 256, 257, 1 << 32, 1<<32 + 1, math.MaxInt64, math.MinInt64, math.MinInt64 + 1}

func num(kind int, n int64) api.Value { return api.Value{Kind: kind, Num: n} }

func text(s string) api.Value { return api.Value{Kind: api.KindText, Text: s} }

func nums(kind int, n ...int64) api.Value { return api.Value{Kind: kind, Nums: n} }

func texts(s ...string) api.Value { return api.Value{Kind: api.KindTexts, Texts: s} }

func long(n int) string { return strings.Repeat("x", n) }

// goodValues are valid values of all kinds and of the greatest sizes.
func goodValues() []api.Value {
	all := []api.Value{num(api.KindBool, 0), num(api.KindBool, 1)}
	for _, n := range goodInts {
		all = append(all, num(api.KindInt, n))
	}
	for _, n := range goodFloats {
		all = append(all, num(api.KindFloat, n))
	}
	for _, s := range []string{"", "a", "ab", "\x00\xff\n", "é", long(255), long(256), long(999), long(1000)} {
		all = append(all, text(s), texts(s), texts("", s), texts(s, s, s))
	}
	for kind := api.KindBools; kind <= api.KindFloats; kind++ {
		all = append(all, nums(kind), nums(kind, 0), nums(kind, 1), nums(kind, 1, 0), nums(kind, make([]int64, 40)...))
	}
	all = append(all, nums(api.KindInts, goodInts...), nums(api.KindFloats, goodFloats...))
	return append(all, texts(), texts(make([]string, 40)...), texts(slices.Repeat([]string{long(1000)}, 40)...))
}

// bytesOf encodes a valid value as the document words it.
func bytesOf(v api.Value) []byte {
	eight := func(n int64) []byte {
		var b []byte
		for shift := 56; shift >= 0; shift -= 8 {
			b = append(b, byte(uint64(n)>>shift))
		}
		return b
	}
	str := func(s string) []byte { return append([]byte{byte(len(s) / 256), byte(len(s) % 256)}, s...) }
	b := []byte{byte(v.Kind)}
	switch v.Kind {
	case 1:
		return append(b, byte(v.Num))
	case 2, 3:
		return append(b, eight(v.Num)...)
	case 4:
		return append(b, str(v.Text)...)
	}
	b = append(b, byte(len(v.Nums)+len(v.Texts)))
	for _, n := range v.Nums {
		if v.Kind == 5 {
			b = append(b, byte(n))
		} else {
			b = append(b, eight(n)...)
		}
	}
	for _, s := range v.Texts {
		b = append(b, str(s)...)
	}
	return b
}

func wantError(t *testing.T, v api.Value, want api.Errno) {
	t.Helper()
	if e := value.Check(v); e != want {
		t.Errorf("Check(kind %d) = %v, want %v", v.Kind, e, want)
	}
	if b, e := value.Encode(v); e != want || want != api.OK && len(b) != 0 {
		t.Errorf("Encode(kind %d) = %v, %v, want %v", v.Kind, b, e, want)
	}
	if n := value.Weight(v); (n == 0) != (want != api.OK) {
		t.Errorf("Weight(kind %d) = %d beside %v", v.Kind, n, want)
	}
}

// wantBytesError checks that neither Prefix nor Decode accepts b, and that both tell nothing but the error.
func wantBytesError(t *testing.T, b []byte, want api.Errno) {
	t.Helper()
	if v, n, e := value.Prefix(b); e != want || n != 0 || !value.Same(v, api.Value{}) {
		t.Errorf("Prefix(%v) = %v, %d, %v, want %v", b, v, n, e, want)
	}
	if v, e := value.Decode(b); e != want || !value.Same(v, api.Value{}) {
		t.Errorf("Decode(%v) = %v, %v, want %v", b, v, e, want)
	}
}

// P4.1

func TestGoodValues(t *testing.T) {
	for _, v := range goodValues() {
		wantError(t, v, api.OK)
	}
}

func TestBadKinds(t *testing.T) {
	for _, kind := range []int{0, -1, 9, 10, 12, 256, 257, 260, 264, 1<<32 + 1, -1 << 63, 1<<63 - 1, -4, -255} {
		wantError(t, api.Value{Kind: kind}, api.ErrKind)
		// The kind is examined ahead of all else.
		wantError(t, api.Value{Kind: kind, Num: 2, Text: long(1001), Nums: make([]int64, 41), Texts: make([]string, 41)}, api.ErrKind)
	}
	wantError(t, api.Value{}, api.ErrKind)
}

// usedFields are the fields of each kind: Num 1, Text 2, Nums 4, Texts 8.
var usedFields = map[int]int{1: 1, 2: 1, 3: 1, 4: 2, 5: 4, 6: 4, 7: 4, 8: 8}

func TestUnusedFields(t *testing.T) {
	for kind, used := range usedFields {
		for set := range 16 {
			v := api.Value{Kind: kind, Nums: []int64{}, Texts: []string{}}
			if set&1 != 0 {
				v.Num = 1
			}
			if set&2 != 0 {
				v.Text = "a"
			}
			if set&4 != 0 {
				v.Nums = []int64{0}
			}
			if set&8 != 0 {
				v.Texts = []string{""}
			}
			want := api.OK
			if set&^used != 0 {
				want = api.ErrField
			}
			wantError(t, v, want)
		}
	}
}

func TestUnusedFieldsComeAheadOfElements(t *testing.T) {
	for _, v := range []api.Value{
		{Kind: api.KindBool, Num: 2, Text: "a"},
		{Kind: api.KindBool, Num: 2, Nums: make([]int64, 41)},
		{Kind: api.KindFloat, Num: firstNaN, Texts: make([]string, 1)},
		{Kind: api.KindText, Num: -1, Text: long(1001)},
		{Kind: api.KindInt, Nums: make([]int64, 41)},
		{Kind: api.KindBools, Num: math.MinInt64, Nums: slices.Repeat([]int64{2}, 41)},
		{Kind: api.KindInts, Nums: make([]int64, 41), Texts: make([]string, 41)},
		{Kind: api.KindTexts, Text: "a", Texts: slices.Repeat([]string{long(1001)}, 41)},
		{Kind: api.KindTexts, Nums: []int64{0}, Texts: make([]string, 41)},
	} {
		wantError(t, v, api.ErrField)
	}
}

func TestLongLists(t *testing.T) {
	for _, n := range []int{0, 1, 39, 40, 41, 42, 255, 256, 296, 70000} {
		want := api.OK
		if n > 40 {
			want = api.ErrList
		}
		for kind := api.KindBools; kind <= api.KindFloats; kind++ {
			wantError(t, nums(kind, make([]int64, n)...), want)
		}
		wantError(t, texts(make([]string, n)...), want)
	}
	// The length is examined ahead of the elements.
	wantError(t, nums(api.KindBools, slices.Repeat([]int64{2}, 41)...), api.ErrList)
	wantError(t, nums(api.KindFloats, slices.Repeat([]int64{firstNaN}, 41)...), api.ErrList)
	wantError(t, texts(slices.Repeat([]string{long(1001)}, 41)...), api.ErrList)
}

// inLists gives the value itself and lists that have it at the beginning, within, and as the last of 40 elements.
func inLists(v api.Value) []api.Value {
	kind := v.Kind + api.ListOf
	if v.Kind == api.KindText {
		return []api.Value{v, texts(v.Text), texts(v.Text, ""), texts("", v.Text, ""), texts(append(make([]string, 39), v.Text)...)}
	}
	return []api.Value{v, nums(kind, v.Num), nums(kind, v.Num, 0), nums(kind, 1, v.Num, 0), nums(kind, append(make([]int64, 39), v.Num)...)}
}

func TestBadElements(t *testing.T) {
	for _, n := range badBools {
		for _, v := range inLists(num(api.KindBool, n)) {
			wantError(t, v, api.ErrBool)
		}
	}
	for _, n := range badFloats {
		for _, v := range inLists(num(api.KindFloat, n)) {
			wantError(t, v, api.ErrNaN)
		}
	}
	for _, n := range []int{1001, 1002, 1256, 65535, 65536, 65537} {
		for _, v := range inLists(text(long(n))) {
			wantError(t, v, api.ErrText)
		}
	}
}

func TestFloatsAreNaNsAsInMath(t *testing.T) {
	for shift := range 64 {
		for _, n := range []int64{1 << shift, 1<<shift - 1, -1 << shift, infinity | 1<<shift, infinity ^ 1<<shift, nan ^ 1<<shift, minusInf ^ 1<<shift} {
			want := api.OK
			if math.IsNaN(math.Float64frombits(uint64(n))) && n != nan {
				want = api.ErrNaN
			}
			for _, v := range inLists(num(api.KindFloat, n)) {
				wantError(t, v, want)
			}
		}
	}
}

// P4.2

// differing are values that differ pairwise, in one field or more, valid or not.
func differing() []api.Value {
	return []api.Value{
		{}, {Kind: 1}, {Kind: 2}, {Kind: -1}, {Kind: 99}, {Num: 1}, {Num: -1}, {Text: "a"}, {Text: "b"}, {Text: "ab"},
		{Nums: []int64{0}}, {Nums: []int64{1}}, {Nums: []int64{0, 0}}, {Nums: []int64{0, 1}}, {Nums: []int64{1, 0}}, {Nums: make([]int64, 41)},
		{Texts: []string{""}}, {Texts: []string{"a"}}, {Texts: []string{"", ""}}, {Texts: []string{"", "a"}}, {Texts: []string{"a", ""}},
		{Texts: make([]string, 41)}, {Num: 1, Text: "a"}, {Nums: []int64{0}, Texts: []string{""}},
		{Kind: 1, Num: 1, Text: "a", Nums: []int64{1}, Texts: []string{"a"}}, {Kind: 1, Num: 1, Text: "a", Nums: []int64{1}, Texts: []string{"b"}},
		{Kind: 3, Num: 0}, {Kind: 3, Num: minusZero}, {Kind: 3, Num: firstNaN}, {Kind: 3, Num: nan}, {Kind: 3, Num: minusNaN},
	}
}

func copied(v api.Value) api.Value {
	v.Text = strings.Clone(v.Text)
	v.Nums = append([]int64{}, v.Nums...)
	v.Texts = append([]string{}, v.Texts...)
	return v
}

func TestSame(t *testing.T) {
	all := differing()
	for i, a := range all {
		for j, b := range all {
			if value.Same(a, copied(b)) != (i == j) || value.Same(copied(a), b) != (i == j) {
				t.Errorf("Same(%v, %v) isn't %v", a, b, i == j)
			}
		}
	}
}

func TestSameOfNilAndEmpty(t *testing.T) {
	for kind := range 10 {
		a, b := api.Value{Kind: kind}, api.Value{Kind: kind, Nums: []int64{}, Texts: []string{}}
		if !value.Same(a, b) || !value.Same(b, a) || !value.Same(a, a) || !value.Same(b, b) {
			t.Errorf("kind %d: nil isn't the same as empty", kind)
		}
	}
}

// P4.3

func TestEncode(t *testing.T) {
	for _, v := range goodValues() {
		if b, e := value.Encode(v); e != api.OK || !bytes.Equal(b, bytesOf(v)) {
			t.Errorf("Encode(%v) = %v, %v, want %v", v, b, e, bytesOf(v))
		}
	}
}

func TestEncodeKnown(t *testing.T) {
	for _, c := range []struct {
		v    api.Value
		want []byte
	}{
		{num(1, 0), []byte{1, 0}},
		{num(1, 1), []byte{1, 1}},
		{num(2, 258), []byte{2, 0, 0, 0, 0, 0, 0, 1, 2}},
		{num(2, -2), []byte{2, 255, 255, 255, 255, 255, 255, 255, 254}},
		{num(3, nan), []byte{3, 0x7f, 0xf8, 0, 0, 0, 0, 0, 0}},
		{text(""), []byte{4, 0, 0}},
		{text("ab"), []byte{4, 0, 2, 97, 98}},
		{text(long(1000)), append([]byte{4, 3, 232}, long(1000)...)},
		{nums(5), []byte{5, 0}},
		{nums(5, 1, 0, 1), []byte{5, 3, 1, 0, 1}},
		{nums(6, 258), []byte{6, 1, 0, 0, 0, 0, 0, 0, 1, 2}},
		{nums(7, minusInf), []byte{7, 1, 0xff, 0xf0, 0, 0, 0, 0, 0, 0}},
		{texts("ab", ""), []byte{8, 2, 0, 2, 97, 98, 0, 0}},
	} {
		if b, e := value.Encode(c.v); e != api.OK || !bytes.Equal(b, c.want) {
			t.Errorf("Encode(%v) = %v, %v, want %v", c.v, b, e, c.want)
		}
	}
}

func TestEncodeIsNewMemory(t *testing.T) {
	for _, v := range goodValues() {
		before := copied(v)
		first, _ := value.Encode(v)
		second, _ := value.Encode(v)
		clear(first[:cap(first)])
		if !bytes.Equal(second, bytesOf(v)) || !value.Same(v, before) {
			t.Errorf("kind %d: results share memory, or the argument was changed", v.Kind)
		}
	}
}

// P4.4

// tails are bytes that may follow a value: none of them matters to Prefix.
var tails = [][]byte{nil, {0}, {255}, {9}, {1, 2}, {8, 41}, bytes.Repeat([]byte{200}, 50000)}

func TestPrefix(t *testing.T) {
	for _, v := range goodValues() {
		for _, tail := range tails {
			b := bytesOf(v)
			if got, n, e := value.Prefix(append(b, tail...)); e != api.OK || n != len(b) || !value.Same(got, v) {
				t.Errorf("Prefix(%v and %d bytes) = %v, %d, %v", v, len(tail), got, n, e)
			}
		}
	}
}

func TestPrefixOfShortBytes(t *testing.T) {
	for _, v := range goodValues() {
		b := bytesOf(v)
		for n := range b {
			if _, got, e := value.Prefix(b[:n]); e != api.ErrShort || got != 0 {
				t.Errorf("Prefix of %d of the bytes of %v: %v", n, v.Kind, e)
			}
		}
	}
}

func TestPrefixOfBadKinds(t *testing.T) {
	for kind := range 256 {
		if kind < 1 || kind > 8 {
			wantBytesError(t, []byte{byte(kind)}, api.ErrKind)
			wantBytesError(t, []byte{byte(kind), 255, 255, 255}, api.ErrKind)
		}
	}
}

func TestPrefixOfBadBytes(t *testing.T) {
	for _, c := range []struct {
		b []byte
		e api.Errno
	}{
		{[]byte{1, 2}, api.ErrBool},
		{[]byte{1, 255}, api.ErrBool},
		{[]byte{1, 128}, api.ErrBool},
		{[]byte{5, 1, 2}, api.ErrBool},
		{[]byte{5, 3, 1, 0, 2}, api.ErrBool},
		// What is met first counts, though the end is too near.
		{[]byte{5, 3, 1, 2}, api.ErrBool},
		{[]byte{5, 40, 7}, api.ErrBool},
		{[]byte{5, 3, 1, 1}, api.ErrShort},
		{[]byte{3, 0x7f, 0xf0, 0, 0, 0, 0, 0, 1}, api.ErrNaN},
		{[]byte{3, 0xff, 0xf8, 0, 0, 0, 0, 0, 0}, api.ErrNaN},
		{[]byte{3, 0xff, 0xff, 0xff, 0xff, 0xff, 0xff, 0xff}, api.ErrShort},
		{[]byte{7, 40, 0xff, 0xff, 0xff, 0xff, 0xff, 0xff, 0xff, 0xff}, api.ErrNaN},
		{[]byte{7, 2, 0, 0, 0, 0, 0, 0, 0, 0, 0xff, 0xff, 0xff, 0xff, 0xff, 0xff, 0xff}, api.ErrShort},
		{[]byte{6, 2, 0xff, 0xff, 0xff, 0xff, 0xff, 0xff, 0xff, 0xff}, api.ErrShort},
		{[]byte{4, 3, 233}, api.ErrText},
		{[]byte{4, 255, 255}, api.ErrText},
		{[]byte{4, 4, 0, 97}, api.ErrText},
		{append([]byte{4, 3, 233}, long(2000)...), api.ErrText},
		{[]byte{4, 3}, api.ErrShort},
		{[]byte{4, 3, 232}, api.ErrShort},
		{append([]byte{4, 3, 232}, long(999)...), api.ErrShort},
		{[]byte{8, 40, 255, 255}, api.ErrText},
		{[]byte{8, 2, 0, 1, 97, 3, 233}, api.ErrText},
		{[]byte{8, 2, 0, 1, 97, 3}, api.ErrShort},
		{[]byte{8, 2, 0, 0, 0}, api.ErrShort},
	} {
		wantBytesError(t, c.b, c.e)
	}
}

func TestPrefixOfLongLists(t *testing.T) {
	for kind := byte(5); kind <= 8; kind++ {
		for count := 41; count < 256; count++ {
			wantBytesError(t, []byte{kind, byte(count)}, api.ErrList)
			wantBytesError(t, append([]byte{kind, byte(count)}, bytes.Repeat([]byte{255}, 3000)...), api.ErrList)
			wantBytesError(t, append([]byte{kind, byte(count)}, make([]byte, 3000)...), api.ErrList)
		}
		wantBytesError(t, []byte{kind}, api.ErrShort)
		if v, n, e := value.Prefix(append([]byte{kind, 40}, make([]byte, 3000)...)); e != api.OK || n < 42 || len(v.Nums)+len(v.Texts) != 40 {
			t.Errorf("kind %d, 40 elements: %d bytes, %v", kind, n, e)
		}
	}
}

func TestPrefixIsNewMemory(t *testing.T) {
	for _, v := range goodValues() {
		b := bytesOf(v)
		room := append(bytes.Clone(b), bytes.Repeat([]byte{77}, 20)...)
		arg := room[:len(b)]
		first, _, _ := value.Prefix(arg)
		second, e := value.Decode(arg)
		if e != api.OK || !bytes.Equal(arg, b) || bytes.Count(room[len(b):], []byte{77}) != 20 {
			t.Errorf("kind %d: the argument was changed", v.Kind)
		}
		clear(room)
		clear(first.Nums[:cap(first.Nums)])
		clear(first.Texts[:cap(first.Texts)])
		if !value.Same(second, v) {
			t.Errorf("kind %d: results share memory", v.Kind)
		}
	}
}

// P4.5

func TestDecode(t *testing.T) {
	for _, v := range goodValues() {
		b := bytesOf(v)
		if got, e := value.Decode(b); e != api.OK || !value.Same(got, v) {
			t.Errorf("Decode of the bytes of %v = %v, %v", v, got, e)
		}
		for _, tail := range tails[1:] {
			if got, e := value.Decode(append(bytes.Clone(b), tail...)); e != api.ErrTail || !value.Same(got, api.Value{}) {
				t.Errorf("Decode(%v and %d bytes) = %v, %v", v, len(tail), got, e)
			}
		}
	}
	wantBytesError(t, nil, api.ErrShort)
	// The error of the value comes ahead of that of what follows it.
	wantBytesError(t, []byte{1, 2, 0}, api.ErrBool)
}

// model decodes as the document words it, one error after the other.
func model(b []byte) (api.Value, int, api.Errno) {
	var v api.Value
	at := 0
	take := func(n int) uint64 {
		var sum uint64
		for _, c := range b[at : at+n] {
			sum = sum<<8 | uint64(c)
		}
		at += n
		return sum
	}
	if len(b) == 0 {
		return v, 0, api.ErrShort
	}
	kind := int(take(1))
	if kind < 1 || kind > 8 {
		return v, 0, api.ErrKind
	}
	count, element := 1, kind
	if kind > 4 {
		if len(b) < 2 {
			return v, 0, api.ErrShort
		}
		count, element = int(take(1)), kind-4
		if count > 40 {
			return v, 0, api.ErrList
		}
	}
	var ns []int64
	var ss []string
	size := []int{0, 1, 8, 8, 2}[element]
	for range count {
		if len(b)-at < size {
			return v, 0, api.ErrShort
		}
		n := int64(take(size))
		if element == 4 && n > 1000 {
			return v, 0, api.ErrText
		}
		if element == 4 {
			if len(b)-at < int(n) {
				return v, 0, api.ErrShort
			}
			ss = append(ss, string(b[at:at+int(n)]))
			at += int(n)
			continue
		}
		if element == 1 && n > 1 {
			return v, 0, api.ErrBool
		}
		if f := math.Float64frombits(uint64(n)); element == 3 && f != f && n != nan {
			return v, 0, api.ErrNaN
		}
		ns = append(ns, n)
	}
	switch {
	case kind < 4:
		return num(kind, ns[0]), at, api.OK
	case kind == 4:
		return text(ss[0]), at, api.OK
	}
	return api.Value{Kind: kind, Nums: ns, Texts: ss}, at, api.OK
}

func wantModel(t *testing.T, b []byte) {
	t.Helper()
	want, size, wantE := model(b)
	v, n, e := value.Prefix(b)
	if e != wantE || n != size || !value.Same(v, want) {
		t.Errorf("Prefix(%v) = %v, %d, %v, want %v, %d, %v", b, v, n, e, want, size, wantE)
	}
	d, e := value.Decode(b)
	if wantE == api.OK && size < len(b) {
		want, wantE = api.Value{}, api.ErrTail
	}
	if e != wantE || !value.Same(d, want) {
		t.Errorf("Decode(%v) = %v, %v, want %v, %v", b, d, e, want, wantE)
	}
	if e == api.OK {
		if back, f := value.Encode(d); f != api.OK || !bytes.Equal(back, b) {
			t.Errorf("Encode(Decode(%v)) = %v, %v", b, back, f)
		}
	}
}

func TestDecodeIsTheInverse(t *testing.T) {
	parts := []byte{0, 1, 2, 3, 40, 41, 0x7f, 0xf0, 0xf8, 0xff}
	seed := uint32(1)
	for kind := range 11 {
		for range 3000 {
			b := []byte{byte(kind)}
			for seed = seed*1664525 + 1013904223; len(b) < int(seed>>27); {
				seed = seed*1664525 + 1013904223
				b = append(b, parts[seed>>16%10])
			}
			wantModel(t, b)
		}
	}
}

func TestDecodeOfChangedBytes(t *testing.T) {
	for _, v := range goodValues() {
		b := bytesOf(v)
		for at := range min(len(b), 12) {
			for _, c := range []byte{0, 1, 2, 3, 4, 5, 39, 40, 41, 0x7f, 0xf0, 0xf8, 0xff} {
				changed := bytes.Clone(b)
				changed[at] = c
				wantModel(t, changed)
			}
		}
	}
}

// P4.6

func TestWeight(t *testing.T) {
	for _, v := range goodValues() {
		if n := value.Weight(v); n != len(bytesOf(v)) {
			t.Errorf("Weight(%v) = %d, want %d", v, n, len(bytesOf(v)))
		}
	}
	for _, c := range []struct {
		v    api.Value
		want int
	}{
		{num(1, 1), 2},
		{num(2, 0), 9},
		{num(3, nan), 9},
		{text(long(1000)), 1003},
		{nums(5, make([]int64, 40)...), 42},
		{nums(7, make([]int64, 40)...), 322},
		{texts(slices.Repeat([]string{long(1000)}, 40)...), 40082},
		{api.Value{}, 0},
		{num(1, 2), 0},
		{num(3, minusNaN), 0},
		{text(long(1001)), 0},
		{nums(6, make([]int64, 41)...), 0},
		{api.Value{Kind: 2, Text: "a"}, 0},
	} {
		if n := value.Weight(c.v); n != c.want {
			t.Errorf("Weight(kind %d) = %d, want %d", c.v.Kind, n, c.want)
		}
	}
}

// P1 and P2

func TestArgumentsOfChecksStay(t *testing.T) {
	for _, v := range append(goodValues(), differing()...) {
		before := copied(v)
		e, w := value.Check(v), value.Weight(v)
		if value.Check(v) != e || value.Weight(v) != w || !value.Same(v, before) {
			t.Errorf("%v: a call changed its argument, or answered differently when repeated", before)
		}
	}
}
