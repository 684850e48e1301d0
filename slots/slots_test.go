package slots_test

import (
	"bytes"
	"math"
	"math/rand"
	"slices"
	"strings"
	"testing"

	"satchel/api"
	"satchel/slots"
)

func num(kind int, n int64) api.Value { return api.Value{Kind: kind, Num: n} }

func text(n int) api.Value { return api.Value{Kind: api.KindText, Text: strings.Repeat("x", n)} }

func nums(kind int, n ...int64) api.Value { return api.Value{Kind: kind, Nums: n} }

func texts(s ...string) api.Value { return api.Value{Kind: api.KindTexts, Texts: s} }

// bools gives a value whose need is so many slots: its bytes are its key, its kind, its count and its elements.
func bools(need int) api.Value {
	return nums(api.KindBools, make([]int64, 8*need-4)...)
}

func prop(key int, v api.Value) api.KeyVal { return api.KeyVal{Key: key, Val: v} }

// keyed gives values the keys 0, 1 and so on.
func keyed(values ...api.Value) []api.KeyVal {
	var props []api.KeyVal
	for key, v := range values {
		props = append(props, prop(key, v))
	}
	return props
}

// badValues are invalid, each with an error of its own.
var badValues = []api.Value{
	{}, {Kind: 9}, {Kind: 2, Text: "a"}, nums(5, make([]int64, 41)...), num(1, 2), num(3, 0x7ff0000000000001), text(1001),
	texts("", strings.Repeat("x", 1001)), nums(5, 0, 2), nums(7, -1),
}

// example are the document's three properties.
func example() []api.KeyVal {
	return keyed(num(2, 258), api.Value{Kind: 4, Text: "abcdefghijklmnop"}, num(1, 1))
}

// exampleIn and exampleOut are what they take.
func exampleIn() []byte {
	return []byte{0, 1, 2, 0, 0, 0, 0, 0, 0, 1, 2, 0, 0, 0, 0, 0, 0, 3, 1, 1, 0, 0, 0, 0, 0, 0, 0, 0, 0, 0, 0, 0}
}

func exampleOut() []byte {
	return append([]byte{0, 2, 0, 19, 4, 0, 16}, "abcdefghijklmnop"...)
}

// P16.1

func TestNeed(t *testing.T) {
	wantNeed := func(v api.Value, want int) {
		t.Helper()
		if n := slots.Need(v); n != want {
			t.Errorf("Need(%v) = %d, want %d", v, n, want)
		}
	}
	wantNeed(num(1, 0), 1)
	wantNeed(num(1, 1), 1)
	wantNeed(num(2, math.MinInt64), 2)
	wantNeed(num(3, 0), 2)
	for _, c := range []struct{ length, need int }{{0, 1}, {3, 1}, {4, 2}, {11, 2}, {12, 3}, {16, 3}, {19, 3}, {20, 4}, {43, 6}, {44, 7}, {123, 16}, {124, 17}, {999, 126}, {1000, 126}} {
		wantNeed(text(c.length), c.need)
	}
	for _, c := range []struct{ length, bools, ints, texts int }{{0, 1, 1, 1}, {1, 1, 2, 1}, {2, 1, 3, 1}, {3, 1, 4, 2}, {4, 1, 5, 2}, {5, 2, 6, 2}, {12, 2, 13, 4}, {13, 3, 14, 4}, {40, 6, 41, 11}} {
		wantNeed(nums(5, make([]int64, c.length)...), c.bools)
		wantNeed(nums(6, make([]int64, c.length)...), c.ints)
		wantNeed(nums(7, make([]int64, c.length)...), c.ints)
		wantNeed(texts(make([]string, c.length)...), c.texts)
	}
	wantNeed(texts(slices.Repeat([]string{strings.Repeat("x", 1000)}, 40)...), 5011)
	for _, v := range badValues {
		wantNeed(v, 0)
	}
}

func TestNeedIsWhatPackTakes(t *testing.T) {
	for n := range 150 {
		v := text(n)
		if need := slots.Need(v); need != (n+12)/8 {
			t.Errorf("Need of a text of %d bytes = %d", n, need)
		}
		for room := range 17 {
			_, out, e := slots.Pack(keyed(v), room)
			if fits := slots.Need(v) <= room; e != api.OK || fits != (len(out) == 0) {
				t.Errorf("Pack of a text of %d bytes into %d slots: %d bytes outside, %v", n, room, len(out), e)
			}
		}
	}
}

// P16.2

func TestPackExample(t *testing.T) {
	in, out, e := slots.Pack(example(), 4)
	if e != api.OK || !bytes.Equal(in, exampleIn()) || !bytes.Equal(out, exampleOut()) {
		t.Errorf("Pack = %v, %v, %v", in, out, e)
	}
	if props, e := slots.Unpack(exampleIn(), exampleOut()); e != api.OK || !same(props, example()) {
		t.Errorf("Unpack = %v, %v", props, e)
	}
	for room := range 17 {
		wantPack(t, example(), room)
	}
}

func TestPackOfNothing(t *testing.T) {
	for room := range 17 {
		for _, props := range [][]api.KeyVal{nil, {}} {
			in, out, e := slots.Pack(props, room)
			if e != api.OK || !bytes.Equal(in, make([]byte, 8*room)) || len(out) > 0 {
				t.Errorf("Pack of nothing into %d slots: %v, %v, %v", room, in, out, e)
			}
			wantPack(t, props, room)
		}
	}
}

func TestRooms(t *testing.T) {
	for _, room := range []int{math.MinInt, -1 << 32, -17, -16, -2, -1, 17, 18, 255, 256, 272, 1 << 31, 1 << 32, 1<<32 + 4, 1 << 61, 1<<61 + 1, math.MaxInt} {
		wantPack(t, example(), room)
		wantPack(t, nil, room)
		// The room comes ahead of the number of properties, and that ahead of the properties.
		wantPack(t, make([]api.KeyVal, 17), room)
	}
	for _, n := range []int{15, 16, 17, 18, 32, 70000} {
		wantPack(t, make([]api.KeyVal, n), 4)
		wantPack(t, keyed(slices.Repeat([]api.Value{num(1, 1)}, n)...), 4)
		wantPack(t, keyed(slices.Repeat([]api.Value{num(1, 1)}, n)...), 16)
	}
}

func TestKeys(t *testing.T) {
	edges := []int{math.MinInt, -1 << 32, -65536, -256, -2, -1, 0, 1, 2, 3, 4, 198, 199, 200, 201, 254, 255, 256, 257, 65535, 65536, 1 << 32, 1<<32 + 3, math.MaxInt}
	for _, a := range edges {
		wantPack(t, []api.KeyVal{prop(a, num(1, 1))}, 2)
		for _, b := range edges {
			wantPack(t, []api.KeyVal{prop(a, num(1, 1)), prop(b, num(1, 0))}, 2)
			wantPack(t, []api.KeyVal{prop(a, num(1, 1)), prop(b, num(1, 0))}, 0)
			for _, c := range edges {
				wantPack(t, []api.KeyVal{prop(a, num(1, 1)), prop(b, num(2, 0)), prop(c, num(1, 1))}, 2)
			}
		}
	}
}

func TestBadValues(t *testing.T) {
	for _, v := range badValues {
		for i := range 3 {
			for _, other := range []int{-1, 0, 1, 2, 3, 200} {
				props := example()
				props[i].Val = v
				props[1].Key = other
				wantPack(t, props, 4)
			}
		}
	}
}

// faults are what can be wrong with one property, in the order of the document.
var faults = []struct {
	e  api.Errno
	do func(p *api.KeyVal)
}{
	{api.ErrToken, func(p *api.KeyVal) { p.Key = -1 }},
	{api.ErrToken, func(p *api.KeyVal) { p.Key = 200 }},
	{api.ErrOrder, func(p *api.KeyVal) { p.Key = 0 }},
	{api.ErrKind, func(p *api.KeyVal) { p.Val = api.Value{} }},
	{api.ErrText, func(p *api.KeyVal) { p.Val = text(1001) }},
}

// The properties are examined one after the other, each wholly.
func TestFaultsOfTwoProperties(t *testing.T) {
	for _, first := range faults {
		for _, second := range faults {
			props := keyed(num(1, 1), num(1, 1), num(1, 1), num(1, 1))
			first.do(&props[1])
			second.do(&props[2])
			if in, out, e := slots.Pack(props, 4); e != first.e || len(in)+len(out) > 0 {
				t.Errorf("Pack(%v) = %v, %v, %v, want %v", props, in, out, e, first.e)
			}
		}
	}
	for i, first := range faults {
		for _, second := range faults[i:] {
			props := keyed(num(1, 1), num(1, 1))
			first.do(&props[1])
			second.do(&props[1])
			wantPack(t, props, 4)
		}
	}
}

// All lists of up to four needs, in all rooms: whether a property is inline hangs on those ahead of it alone.
func TestNeeds(t *testing.T) {
	var try func(values []api.Value)
	try = func(values []api.Value) {
		for room := range 8 {
			wantPack(t, keyed(values...), room)
		}
		if len(values) == 4 {
			return
		}
		for need := 1; need <= 5; need++ {
			try(append(slices.Clone(values), bools(need)))
		}
	}
	try(nil)
	in, out, e := slots.Pack(keyed(bools(2), bools(3), bools(1), bools(2), bools(1)), 4)
	if want := slices.Concat(inline(prop(0, bools(2))), inline(prop(2, bools(1))), inline(prop(4, bools(1)))); e != api.OK || !bytes.Equal(in, want) {
		t.Errorf("Pack: inline %v, %v, want %v", in, e, want)
	}
	if want := append(beside(prop(1, bools(3))), beside(prop(3, bools(2)))...); !bytes.Equal(out, want) {
		t.Errorf("Pack: outside %v, want %v", out, want)
	}
}

// someValue gives a valid value, in most cases a small one.
func someValue(r *rand.Rand) api.Value {
	list := make([]int64, r.Intn(5))
	for i := range list {
		list[i] = r.Int63n(2)
	}
	switch r.Intn(9) {
	case 0:
		return num(1, r.Int63n(2))
	case 1:
		return num(2, int64(r.Uint64()))
	case 2:
		return num(3, []int64{0, math.MinInt64, 0x7ff8000000000000, 0x7ff0000000000000, 1}[r.Intn(5)])
	case 3, 4:
		return text(r.Intn(30))
	case 5, 6, 7:
		return nums(5+r.Intn(3), list...)
	}
	return texts(make([]string, r.Intn(5))...)
}

// someProps gives properties of which all is right.
func someProps(r *rand.Rand) []api.KeyVal {
	var props []api.KeyVal
	for i := range r.Intn(17) {
		props = append(props, prop(i*12+r.Intn(12), someValue(r)))
	}
	if len(props) > 0 && r.Intn(4) == 0 {
		props[len(props)-1].Key = 199
	}
	return props
}

func TestRandomPacks(t *testing.T) {
	r := rand.New(rand.NewSource(16))
	for range 20000 {
		wantPack(t, someProps(r), r.Intn(17))
	}
}

func TestGreatValues(t *testing.T) {
	most := texts(slices.Repeat([]string{strings.Repeat("x", 1000)}, 40)...)
	wantPack(t, keyed(slices.Repeat([]api.Value{most}, 16)...), 16)
	wantPack(t, keyed(slices.Repeat([]api.Value{text(123)}, 16)...), 16)
	wantPack(t, []api.KeyVal{prop(3, most), prop(198, text(1000)), prop(199, text(3))}, 1)
}

// P16.3

func TestSizes(t *testing.T) {
	for n := range 300 {
		want := api.ErrSize
		if n%8 == 0 && n <= 128 {
			want = api.OK
		}
		wantError(t, make([]byte, n), nil, want)
		if want != api.OK {
			// The size comes ahead of all else.
			wantError(t, bytes.Repeat([]byte{255}, n), []byte{255}, api.ErrSize)
		}
	}
	wantError(t, make([]byte, 1<<20), nil, api.ErrSize)
	wantError(t, []byte{0, 1, 1, 1}, nil, api.ErrSize)
	wantError(t, slices.Repeat([]byte{0, 1, 1, 1, 0, 0, 0, 0}, 17), nil, api.ErrSize)
	for n := range 24 {
		if n%8 != 0 {
			wantError(t, exampleIn()[:n], exampleOut(), api.ErrSize)
		}
	}
}

func TestSlotsErrors(t *testing.T) {
	for _, in := range [][]byte{
		{0, 201, 1, 1, 0, 0, 0, 0},
		{1, 0, 1, 1, 0, 0, 0, 0},
		{1, 1, 1, 1, 0, 0, 0, 0},
		{255, 255, 1, 1, 0, 0, 0, 0},
		{0, 1, 0, 0, 0, 0, 0, 0},
		{0, 1, 9, 0, 0, 0, 0, 0},
		{0, 1, 1, 2, 0, 0, 0, 0},
		{0, 1, 1, 1, 1, 0, 0, 0},
		{0, 1, 1, 1, 0, 0, 0, 1},
		{0, 1, 4, 0, 3, 7, 7, 7, 1, 0, 0, 0, 0, 0, 0, 0},
		{0, 1, 4, 0, 4, 7, 7, 7},
		{0, 1, 2, 0, 0, 0, 0, 0},
		{0, 1, 4, 3, 233, 0, 0, 0},
		{0, 1, 5, 41, 0, 0, 0, 0},
		{0, 1, 3, 255, 255, 255, 255, 255, 255, 255, 255, 0, 0, 0, 0, 0},
		{0, 0, 1, 0, 0, 0, 0, 0},
		{0, 0, 0, 0, 0, 0, 0, 1},
		{0, 0, 0, 0, 0, 0, 0, 0, 0, 1, 1, 1, 0, 0, 0, 0},
		{0, 0, 0, 0, 0, 0, 0, 0, 0, 0, 0, 0, 0, 0, 0, 1},
		{0, 1, 1, 1, 0, 0, 0, 0, 0, 0, 0, 0, 0, 0, 0, 0, 0, 3, 1, 1, 0, 0, 0, 0},
	} {
		wantError(t, in, nil, api.ErrSlots)
		// It comes ahead of what is wrong outside.
		wantError(t, in, []byte{0}, api.ErrSlots)
		wantError(t, in, []byte{0, 1, 0, 2, 1, 1}, api.ErrSlots)
		wantError(t, append([]byte{0, 1, 1, 1, 0, 0, 0, 0}, in...), nil, api.ErrSlots)
	}
}

func TestOverErrors(t *testing.T) {
	in := exampleIn()
	for _, out := range [][]byte{
		{0},
		{0, 2},
		{0, 2, 0},
		{0, 2, 0, 0},
		{0, 2, 0, 2},
		{0, 2, 0, 2, 1},
		{0, 0, 0, 2, 1, 1},
		{0, 201, 0, 2, 1, 1},
		{1, 0, 0, 2, 1, 1},
		{1, 2, 0, 2, 1, 1},
		{255, 255, 0, 2, 1, 1},
		{0, 2, 1, 2, 1, 1},
		{0, 2, 0, 3, 1, 1},
		{0, 2, 0, 3, 1, 1, 0},
		{0, 2, 0, 2, 1, 2},
		{0, 2, 0, 2, 0, 0},
		{0, 2, 0, 2, 9, 0},
		{0, 2, 0, 1, 1, 1},
		{0, 2, 0, 2, 1, 1, 0},
		{0, 2, 0, 2, 1, 1, 0, 0},
		{0, 2, 0, 2, 1, 1, 0, 0, 0, 0, 0, 0},
	} {
		wantError(t, in, out, api.ErrOver)
		wantError(t, nil, out, api.ErrOver)
		wantError(t, in, append(exampleOut(), out...), api.ErrOver)
		// It comes ahead of what is wrong with all properties together.
		wantError(t, slices.Repeat([]byte{0, 1, 1, 1, 0, 0, 0, 0}, 16), append(exampleOut(), out...), api.ErrOver)
	}
}

func TestPropsErrors(t *testing.T) {
	in := func(n int) []byte {
		var b []byte
		for key := range n {
			b = append(b, inline(prop(key, num(1, 1)))...)
		}
		return b
	}
	out := func(first, n int) []byte {
		var b []byte
		for key := range n {
			b = append(b, beside(prop(first+key, num(1, 1)))...)
		}
		return b
	}
	for inside := range 17 {
		for outside := range 20 {
			want := api.OK
			if inside+outside > 16 {
				want = api.ErrProps
			}
			wantError(t, in(inside), out(inside, outside), want)
			// It comes ahead of the shape, here of keys that occur twice.
			if want != api.OK {
				wantError(t, in(inside), out(0, outside), want)
			}
		}
	}
	wantError(t, nil, slices.Repeat(beside(prop(0, num(1, 1))), 17), api.ErrProps)
	wantError(t, slices.Repeat(inline(prop(0, num(1, 1))), 16), beside(prop(0, num(1, 1))), api.ErrProps)
}

func TestShapeErrors(t *testing.T) {
	yes := num(1, 1)
	for i, c := range []struct{ in, out []api.KeyVal }{
		// One that fits stands outside.
		{nil, []api.KeyVal{prop(2, yes)}},
		{[]api.KeyVal{prop(0, yes)}, []api.KeyVal{prop(2, num(2, 0))}},
		{[]api.KeyVal{prop(2, yes)}, []api.KeyVal{prop(0, num(2, 0))}},
		// Its place is taken by one with a greater key.
		{[]api.KeyVal{prop(0, yes), prop(3, yes), prop(4, yes), prop(5, yes)}, []api.KeyVal{prop(2, yes)}},
		{[]api.KeyVal{prop(3, bools(4))}, []api.KeyVal{prop(2, bools(3))}},
		// The order isn't that of the keys.
		{[]api.KeyVal{prop(1, yes), prop(0, yes)}, nil},
		{[]api.KeyVal{prop(0, bools(3))}, []api.KeyVal{prop(3, bools(2)), prop(2, bools(2))}},
		// Two have one key.
		{[]api.KeyVal{prop(1, yes), prop(1, yes)}, nil},
		{[]api.KeyVal{prop(1, yes), prop(1, num(1, 0))}, nil},
		{[]api.KeyVal{prop(1, bools(3))}, []api.KeyVal{prop(1, bools(2))}},
		{[]api.KeyVal{prop(1, bools(4))}, []api.KeyVal{prop(1, bools(4))}},
		{[]api.KeyVal{prop(0, bools(3))}, []api.KeyVal{prop(2, bools(2)), prop(2, bools(2))}},
	} {
		var in, out []byte
		for _, p := range c.in {
			in = append(in, inline(p)...)
		}
		for _, p := range c.out {
			out = append(out, beside(p)...)
		}
		in = append(in, make([]byte, 32-len(in))...)
		if got, e := slots.Unpack(in, out); e != api.ErrShape || len(got) > 0 {
			t.Errorf("%d: Unpack = %v, %v", i, got, e)
		}
		wantUnpack(t, in, out)
	}
	// The same bytes are right in other slots only if nothing else fits there.
	wantError(t, exampleIn()[:24], exampleOut(), api.OK)
	wantError(t, exampleIn()[:16], exampleOut(), api.OK)
	wantError(t, exampleIn()[:16], append(exampleOut(), beside(prop(2, yes))...), api.OK)
	wantError(t, exampleIn()[:24], append(exampleOut(), beside(prop(3, yes))...), api.OK)
	wantError(t, append(exampleIn()[:16], make([]byte, 8)...), append(exampleOut(), beside(prop(2, yes))...), api.ErrShape)
	wantError(t, exampleIn(), append(exampleOut(), beside(prop(3, yes))...), api.ErrShape)
	wantError(t, append(exampleIn(), make([]byte, 8)...), exampleOut(), api.ErrShape)
}

// All contents of one slot, and all of eight bytes outside, that consist of a few numbers.
func TestAllShortBytes(t *testing.T) {
	few := []byte{0, 1, 2, 4, 5}
	b := make([]byte, 8)
	var try func(at int)
	try = func(at int) {
		if at == len(b) {
			wantUnpack(t, b, nil)
			wantUnpack(t, nil, b)
			wantUnpack(t, b, []byte{0, 2, 0, 3, 4, 0, 0})
			return
		}
		for _, c := range few {
			b[at] = c
			try(at + 1)
		}
	}
	try(0)
}

// allChanges unpacks with each byte changed to every other, cut and made longer.
func allChanges(t *testing.T, b []byte, unpack func(b []byte)) {
	t.Helper()
	for i := range b {
		for c := range 256 {
			d := bytes.Clone(b)
			d[i] = byte(c)
			unpack(d)
		}
		unpack(b[:i])
		unpack(b[i:])
		unpack(slices.Delete(bytes.Clone(b), i, i+1))
		unpack(slices.Insert(bytes.Clone(b), i, 0))
	}
	for n := range 20 {
		unpack(append(bytes.Clone(b), make([]byte, n)...))
	}
}

func TestChangedBytes(t *testing.T) {
	for _, props := range [][]api.KeyVal{
		example(),
		keyed(text(3), text(40), text(11), nums(5, 1, 0, 1), texts("a", "", "b"), num(3, 5)),
		keyed(num(1, 0), nums(6, 7, 8, 9), nums(7, 0), num(1, 1), texts()),
		{prop(0, text(60)), prop(7, num(1, 1)), prop(198, num(2, -1)), prop(199, text(0))},
	} {
		for _, room := range []int{0, 1, 4, 6} {
			in, out, e := modelPack(props, room)
			if e != api.OK {
				t.Fatal(e)
			}
			allChanges(t, in, func(b []byte) { wantUnpack(t, b, out) })
			allChanges(t, out, func(b []byte) { wantUnpack(t, in, b) })
		}
	}
}

func TestRandomBytes(t *testing.T) {
	r := rand.New(rand.NewSource(161))
	change := func(b []byte) []byte {
		for range r.Intn(3) {
			if len(b) > 0 {
				b[r.Intn(len(b))] = []byte{0, 1, 2, 3, 4, 5, 8, 9, 199, 200, 201, 255}[r.Intn(12)]
			}
		}
		return b
	}
	for range 30000 {
		in, out, e := modelPack(someProps(r), r.Intn(17))
		if e != api.OK {
			t.Fatal(e)
		}
		wantUnpack(t, change(in), change(out))
		// What was packed in other slots is seldom right here, and often each for itself.
		other, beside, _ := modelPack(someProps(r), len(in)/8)
		wantUnpack(t, other, out)
		wantUnpack(t, in, beside)
		wantUnpack(t, in, append(out, beside...))
	}
}

// What stands outside may be long: it is read in one go, wherever its error is.
func TestLongOver(t *testing.T) {
	one := beside(prop(1, num(1, 1)))
	long := bytes.Repeat(one, 1<<20)
	for _, c := range []struct {
		out []byte
		e   api.Errno
	}{
		{long, api.ErrProps},
		{append(long, 0), api.ErrOver},
		{long[1:], api.ErrOver},
		{make([]byte, 1<<22), api.ErrOver},
	} {
		if props, e := slots.Unpack(nil, c.out); e != c.e || len(props) > 0 {
			t.Errorf("Unpack of %d bytes: %v, %v, want %v", len(c.out), props, e, c.e)
		}
	}
}

// P16.4: results are new memory, and arguments stay as they are.

// spoil overwrites a list and its spare capacity.
func spoil[T any](list []T, with T) {
	list = list[:cap(list)]
	for i := range list {
		list[i] = with
	}
}

func spoilProps(props []api.KeyVal) {
	for _, p := range props {
		spoil(p.Val.Nums, 9)
		spoil(p.Val.Texts, "z")
	}
	spoil(props, prop(9, num(2, 9)))
}

func mixed() []api.KeyVal {
	return keyed(nums(6, 7, 8), texts("ab", "c"), nums(5, 1, 0), nums(6, 1, 2, 3), nums(7, 0, 1, 2), nums(5, 1))
}

func TestPackIsNewMemory(t *testing.T) {
	props := mixed()
	wantIn, wantOut, _ := modelPack(props, 6)
	firstIn, firstOut, _ := slots.Pack(props, 6)
	secondIn, secondOut, _ := slots.Pack(props, 6)
	spoil(firstIn, 9)
	if !bytes.Equal(firstOut, wantOut) {
		t.Errorf("what is inline and what is outside share memory")
	}
	spoil(firstOut, 9)
	spoilProps(props)
	if !bytes.Equal(secondIn, wantIn) || !bytes.Equal(secondOut, wantOut) {
		t.Errorf("Pack: results share memory")
	}
}

func TestUnpackIsNewMemory(t *testing.T) {
	in, out, _ := modelPack(mixed(), 6)
	in, out = append(in, 77)[:len(in)], append(out, 77)[:len(out)]
	inBefore, outBefore := bytes.Clone(in[:cap(in)]), bytes.Clone(out[:cap(out)])
	first, _ := slots.Unpack(in, out)
	second, _ := slots.Unpack(in, out)
	if !bytes.Equal(in[:cap(in)], inBefore) || !bytes.Equal(out[:cap(out)], outBefore) {
		t.Errorf("Unpack changed its arguments")
	}
	spoil(in, 9)
	spoil(out, 9)
	for i := range first {
		spoil(first[i].Val.Nums, 9)
		spoil(first[i].Val.Texts, "z")
		first[i].Val = mixed()[i].Val
		if !same(first, mixed()) {
			t.Errorf("the lists of one result share memory: %v", first)
		}
	}
	spoilProps(first)
	if !same(second, mixed()) {
		t.Errorf("Unpack: results share memory: %v", second)
	}
}

func TestPackLeavesSpareCapacity(t *testing.T) {
	props := append(mixed(), prop(50, num(1, 1)), prop(51, num(1, 1)))
	before := copyOf(props)
	if _, _, e := slots.Pack(props[:4], 6); e != api.OK || !same(props, before) {
		t.Errorf("Pack: %v, and its argument with its spare capacity is %v", e, props)
	}
}
