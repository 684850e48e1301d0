package cell_test

import (
	"math"
	"math/rand"
	"slices"
	"strings"
	"testing"
	"unsafe"

	"satchel/api"
	"satchel/cell"
	"satchel/value"
)

func text(s string) api.Value { return api.Value{Kind: api.KindText, Text: s} }

func list(s ...string) api.Value { return api.Value{Kind: api.KindTexts, Texts: s} }

func nums(kind int, n ...int64) api.Value { return api.Value{Kind: kind, Nums: n} }

// wantForm asks for the form of a valid value, and whether it is read.
func wantForm(t *testing.T, v api.Value) {
	t.Helper()
	want := write(v)
	if s, e := cell.Print(v); e != api.OK || s != want {
		t.Fatalf("Print(%+v) = %.200q, %v, want %.200q", v, s, e, want)
	}
	if w, e := cell.Parse(want); e != api.OK || !value.Same(w, v) {
		t.Fatalf("Parse(%.200q) = %+v, %v", want, w, e)
	}
}

// wantRead compares Parse with the model, and asks for the form of what is read.
func wantRead(t *testing.T, s string) api.Errno {
	t.Helper()
	want, wrong := read(s)
	v, e := cell.Parse(s)
	if e != wrong || !value.Same(v, want) {
		t.Fatalf("Parse(%.200q) = %+v, %v, want %+v, %v", s, v, e, want, wrong)
	}
	if e == api.OK {
		if form, e := cell.Print(v); e != api.OK || form != s {
			t.Fatalf("Parse takes %.200q, whose form is %.200q, %v", s, form, e)
		}
	}
	return e
}

// P22.1, P22.2: the document's examples, and a value of each kind.
func TestForms(t *testing.T) {
	for _, c := range []struct {
		s string
		v api.Value
	}{
		{`s[]:a\;b;\\;;`, list("a;b", `\`, "")},
		{"b[]:true;", nums(api.KindBools, 1)},
		{"i:-7", api.Value{Kind: api.KindInt, Num: -7}},
		{"s:i:1", text("i:1")},
		{"s[]:", list()},
		{"s[]:;", list("")},
		{"s[]:;;", list("", "")},
		{`s[]:\\\;;`, list(`\;`)},
		{`s[]:a:b,c"d;`, list(`a:b,c"d`)},
		{"s:", text("")},
		{`s:\;\`, text(`\;\`)},
		{"s:s[]:a;", text("s[]:a;")},
		{"b:true", api.Value{Kind: api.KindBool, Num: 1}},
		{"b:false", api.Value{Kind: api.KindBool}},
		{"b[]:", nums(api.KindBools)},
		{"b[]:false;true;false;", nums(api.KindBools, 0, 1, 0)},
		{"i:0", api.Value{Kind: api.KindInt}},
		{"i:-9223372036854775808", api.Value{Kind: api.KindInt, Num: math.MinInt64}},
		{"i[]:", nums(api.KindInts)},
		{"i[]:3;-1;9223372036854775807;", nums(api.KindInts, 3, -1, math.MaxInt64)},
		{"f:0x1.8p0", api.Value{Kind: api.KindFloat, Num: 0x3ff8000000000000}},
		{"f:0xnan", api.Value{Kind: api.KindFloat, Num: 0x7ff8000000000000}},
		{"f:-0x0", api.Value{Kind: api.KindFloat, Num: math.MinInt64}},
		{"f[]:", nums(api.KindFloats)},
		{"f[]:0x0;-0xinf;0x1m1074;", nums(api.KindFloats, 0, -0x10000000000000, 1)},
	} {
		if s, e := cell.Print(c.v); e != api.OK || s != c.s {
			t.Errorf("Print(%+v) = %q, %v, want %q", c.v, s, e, c.s)
		}
		if v, e := cell.Parse(c.s); e != api.OK || !value.Same(v, c.v) {
			t.Errorf("Parse(%q) = %+v, %v, want %+v", c.s, v, e, c.v)
		}
		wantForm(t, c.v)
		wantRead(t, c.s)
	}
}

// P22.2: the document's examples, and the edges of its words.
func TestWrongCells(t *testing.T) {
	for _, c := range []struct {
		s string
		e api.Errno
	}{
		{"", api.ErrCell}, {"b", api.ErrCell}, {"i[]", api.ErrCell}, {":", api.ErrCell}, {":1", api.ErrCell}, {"I:1", api.ErrCell}, {" i:1", api.ErrCell}, {"i :1", api.ErrCell}, {"i[:1", api.ErrCell}, {"i]:1", api.ErrCell}, {"i[ ]:1;", api.ErrCell}, {"i[][]:1;", api.ErrCell}, {"[]:1;", api.ErrCell}, {"ii:1", api.ErrCell}, {"x:1", api.ErrCell}, {"1", api.ErrCell},
		{"i:07", api.ErrDigit}, {"i:", api.ErrDigit}, {"i:-0", api.ErrDigit}, {"i:1;", api.ErrDigit}, {"i: 1", api.ErrDigit}, {"i:+1", api.ErrDigit}, {"i:9223372036854775808", api.ErrRange}, {"i:-9223372036854775809", api.ErrRange},
		{"f:", api.ErrFloat}, {"f:1", api.ErrFloat}, {"f:0x1.80p0", api.ErrFloat}, {"f:0x0;", api.ErrFloat}, {"f:-0xnan", api.ErrFloat},
		{"b:", api.ErrCell}, {"b:yes", api.ErrCell}, {"b:True", api.ErrCell}, {"b:1", api.ErrCell}, {"b:true;", api.ErrCell}, {"b:truefalse", api.ErrCell}, {"b: true", api.ErrCell},
		{"i[]:1", api.ErrCell}, {"i[]:x", api.ErrCell}, {"i[]:x;1", api.ErrDigit}, {"i[]:1;x", api.ErrCell}, {"i[]:;", api.ErrDigit}, {"i[]:1;;", api.ErrDigit}, {"i[]:1;2", api.ErrCell}, {"i[]:9223372036854775808;x;", api.ErrRange}, {"i[]:x;9223372036854775808;", api.ErrDigit},
		{"b[]:true", api.ErrCell}, {"b[]:;", api.ErrCell}, {"b[]:true;yes;", api.ErrCell},
		{"f[]:0x0", api.ErrCell}, {"f[]:0;0x0", api.ErrFloat}, {"f[]:0x0;0", api.ErrCell}, {"f[]:;", api.ErrFloat},
		{`s[]:a\b;`, api.ErrCell}, {`s[]:a`, api.ErrCell}, {`s[]:a;b`, api.ErrCell}, {`s[]:\`, api.ErrCell}, {`s[]:a;\`, api.ErrCell}, {`s[]:\;`, api.ErrCell}, {`s[]:\\`, api.ErrCell}, {`s[]:\\\;`, api.ErrCell}, {`s[]:a\n;b;`, api.ErrCell},
	} {
		if e := wantRead(t, c.s); e != c.e {
			t.Errorf("Parse(%q): %v, want %v", c.s, e, c.e)
		}
	}
}

// sequences gives all sequences of up to so many parts.
func sequences(most int, parts ...string) []string {
	all := []string{""}
	last := all
	for range most {
		var next []string
		for _, s := range last {
			for _, part := range parts {
				next = append(next, s+part)
			}
		}
		all = append(all, next...)
		last = next
	}
	return all
}

// P22.2: all short cells of the parts that matter.
func TestAllShortCells(t *testing.T) {
	found := map[api.Errno]int{}
	for _, s := range sequences(6, "b", "i", "f", "s", "[", "]", ":", ";") {
		found[wantRead(t, s)]++
	}
	for begin, parts := range map[string][]string{
		"b": {"true", "false", "t", ";", "1", " "},
		"i": {"0", "1", "-", ";", "9223372036854775807", "x"},
		"f": {"0x0", "-", "0x1", "p1", ";", "1"},
		"s": {"a", `\`, ";", "\n", "\xff", "é"},
	} {
		for _, rest := range sequences(6, parts...) {
			found[wantRead(t, begin+":"+rest)]++
			found[wantRead(t, begin+"[]:"+rest)]++
		}
	}
	for _, e := range []api.Errno{api.OK, api.ErrCell, api.ErrDigit, api.ErrRange, api.ErrFloat} {
		if found[e] == 0 {
			t.Errorf("no cell with %v: %v", e, found)
		}
	}
}

// P22.2: what stands for one kind behind the beginning of each other one.
func TestMixedKinds(t *testing.T) {
	elements := []string{"true", "false", "0", "1", "-7", "0x0", "-0x1m2", "0xnan", "true;", "1;", "0x0;", "a", "", "i:1", "b:true"}
	for _, begin := range []string{"b", "i", "f", "s"} {
		for _, x := range elements {
			wantRead(t, begin+":"+x)
			for _, y := range elements {
				wantRead(t, begin+"[]:"+x+y)
				wantRead(t, begin+"[]:"+x+";"+y+";")
			}
		}
	}
	for s, want := range map[string]api.Errno{"i:true": api.ErrDigit, "f:false": api.ErrFloat, "i[]:1;true;": api.ErrDigit, "f[]:false;": api.ErrFloat, "b:1": api.ErrCell, "b[]:0;": api.ErrCell, "i:0x0": api.ErrDigit, "f:0": api.ErrFloat} {
		if e := wantRead(t, s); e != want {
			t.Errorf("Parse(%q): %v, want %v", s, e, want)
		}
	}
}

// P22.1, P22.2: each byte in texts, behind a backslash, and in the beginning.
func TestEachByte(t *testing.T) {
	for c := range 256 {
		s := string([]byte{byte(c)})
		for _, part := range []string{s, s + "a", "a" + s, s + s, `\` + s, s + `\`} {
			wantForm(t, text(part))
			wantForm(t, list(part))
			wantForm(t, list("", part, "b", part))
			wantRead(t, "s[]:"+part+";")
			wantRead(t, "s[]:a;"+part)
			wantRead(t, part+":1")
			wantRead(t, "i"+part+"1")
			wantRead(t, "i[]"+part+"1;")
			wantRead(t, "i[]:1"+part)
		}
	}
}

// P22.1, P22.2: the limits of layer 4, and what comes ahead of them.
func TestLimits(t *testing.T) {
	long := strings.Repeat("x", 1000)
	full := slices.Repeat([]string{strings.Repeat(";", 500) + strings.Repeat(`\`, 500)}, 40)
	for _, v := range []api.Value{text(long), text(strings.Repeat(";", 1000)), list(long), list(full...), list(make([]string, 40)...), nums(api.KindBools, make([]int64, 40)...), nums(api.KindInts, slices.Repeat([]int64{math.MinInt64}, 40)...), nums(api.KindFloats, make([]int64, 40)...)} {
		wantForm(t, v)
	}
	for _, c := range []struct {
		s string
		e api.Errno
	}{
		{"s:" + long + "x", api.ErrText},
		{"s:" + strings.Repeat(`\`, 1001), api.ErrText},
		{"s[]:" + long + "x;", api.ErrText},
		{"s[]:" + strings.Repeat(`\;`, 1000) + ";", api.OK},
		{"s[]:" + strings.Repeat(`\;`, 1001) + ";", api.ErrText},
		{"s[]:" + strings.Repeat(`\\`, 1001) + ";", api.ErrText},
		{"s[]:" + strings.Repeat("x", 1001), api.ErrCell},
		{"s[]:" + strings.Repeat("x", 1001) + `;\a;`, api.ErrCell},
		{"s[]:a;" + strings.Repeat("x", 1001) + ";a;", api.ErrText},
		{"s[]:" + strings.Repeat(";", 40), api.OK},
		{"s[]:" + strings.Repeat(";", 41), api.ErrList},
		{"s[]:" + strings.Repeat(";", 41) + "a", api.ErrCell},
		{"s[]:" + strings.Repeat("x", 1001) + ";" + strings.Repeat(";", 40), api.ErrList},
		{"b[]:" + strings.Repeat("true;", 40), api.OK},
		{"b[]:" + strings.Repeat("true;", 41), api.ErrList},
		{"b[]:" + strings.Repeat("true;", 41) + "yes;", api.ErrCell},
		{"i[]:" + strings.Repeat("0;", 41), api.ErrList},
		{"i[]:" + strings.Repeat("0;", 41) + "x;", api.ErrDigit},
		{"i[]:" + strings.Repeat("0;", 41) + "9223372036854775808;", api.ErrRange},
		{"i[]:" + strings.Repeat("0;", 300) + "1", api.ErrCell},
		{"f[]:" + strings.Repeat("0x0;", 41), api.ErrList},
		{"f[]:" + strings.Repeat("0x0;", 41) + "0;", api.ErrFloat},
		{"i:" + strings.Repeat("9", 3000), api.ErrRange},
		{"f:0x1." + strings.Repeat("9", 3000) + "p0", api.ErrFloat},
	} {
		if e := wantRead(t, c.s); e != c.e {
			t.Errorf("Parse(%.60q): %v, want %v", c.s, e, c.e)
		}
	}
}

// P22.1: the errors of layer 4.
func TestPrintOfWrongValues(t *testing.T) {
	for i, c := range []struct {
		v api.Value
		e api.Errno
	}{
		{api.Value{}, api.ErrKind},
		{api.Value{Kind: 9}, api.ErrKind},
		{api.Value{Kind: -1}, api.ErrKind},
		{api.Value{Kind: math.MaxInt}, api.ErrKind},
		{api.Value{Kind: math.MinInt, Text: "a"}, api.ErrKind},
		{api.Value{Kind: api.KindBool, Num: 2}, api.ErrBool},
		{api.Value{Kind: api.KindBool, Num: -1}, api.ErrBool},
		{api.Value{Kind: api.KindBool, Num: 2, Text: "a"}, api.ErrField},
		{api.Value{Kind: api.KindText, Text: "a", Num: 1}, api.ErrField},
		{api.Value{Kind: api.KindInts, Texts: []string{"a"}}, api.ErrField},
		{api.Value{Kind: api.KindFloat, Num: 0x7ff0000000000001}, api.ErrNaN},
		{nums(api.KindFloats, 0, -1), api.ErrNaN},
		{nums(api.KindBools, 0, 1, 2), api.ErrBool},
		{nums(api.KindInts, make([]int64, 41)...), api.ErrList},
		{list(make([]string, 41)...), api.ErrList},
		{text(strings.Repeat("x", 1001)), api.ErrText},
		{list("", strings.Repeat("x", 1001)), api.ErrText},
	} {
		if s, e := cell.Print(c.v); e != c.e || s != "" {
			t.Errorf("%d: Print = %.60q, %v, want %v", i, s, e, c.e)
		}
	}
}

var (
	someTexts = []string{"", "a", ";", `\`, `\;`, "caf\xc3\xa9", "\x00\xff", "true", "a\r\nb", strings.Repeat("long", 60)}
	someNums  = []int64{0, 1, -1, 42, math.MinInt64, math.MaxInt64, 0x3ff8000000000000}
)

func randomNum(rng *rand.Rand, element int) int64 {
	switch element {
	case api.KindBool:
		return rng.Int63n(2)
	case api.KindFloat:
		return int64(math.Float64bits(rng.NormFloat64() * math.Pow(2, float64(rng.Intn(200)-100))))
	}
	return someNums[rng.Intn(len(someNums))] >> rng.Intn(20)
}

func randomValue(rng *rand.Rand) api.Value {
	v := api.Value{Kind: 1 + rng.Intn(8)}
	switch v.Kind {
	case api.KindText:
		v.Text = someTexts[rng.Intn(len(someTexts))]
	case api.KindTexts:
		for range rng.Intn(5) {
			v.Texts = append(v.Texts, someTexts[rng.Intn(len(someTexts))]+someTexts[rng.Intn(len(someTexts))])
		}
	case api.KindBools, api.KindInts, api.KindFloats:
		for range rng.Intn(5) {
			v.Nums = append(v.Nums, randomNum(rng, v.Kind-api.ListOf))
		}
	default:
		v.Num = randomNum(rng, v.Kind)
	}
	return v
}

// P22.1, P22.2: values, and forms with a few changed bytes.
func TestRandomValues(t *testing.T) {
	rng := rand.New(rand.NewSource(1))
	for range 30000 {
		v := randomValue(rng)
		wantForm(t, v)
		s := []byte(write(v))
		for range 1 + rng.Intn(2) {
			s[rng.Intn(len(s))] = ";\\:[]01-xptrue\x00"[rng.Intn(15)]
		}
		wantRead(t, string(s))
		wantRead(t, string(s[:rng.Intn(len(s)+1)]))
	}
}

// P1, P22.2: very long cells take no more steps than they have bytes.
func TestLongCells(t *testing.T) {
	const many = 1 << 20
	for s, want := range map[string]api.Errno{
		strings.Repeat("b", many):                      api.ErrCell,
		"b:" + strings.Repeat("true", many):            api.ErrCell,
		"i:" + strings.Repeat("1", many):               api.ErrRange,
		"f:0x1p" + strings.Repeat("1", many):           api.ErrFloat,
		"s:" + strings.Repeat(`\`, many):               api.ErrText,
		"s[]:" + strings.Repeat(";", many):             api.ErrList,
		"s[]:" + strings.Repeat(`\`, many):             api.ErrCell,
		"s[]:" + strings.Repeat(`\\`, many) + ";":      api.ErrText,
		"i[]:" + strings.Repeat("1;", many):            api.ErrList,
		"i[]:" + strings.Repeat("1;", many) + "0":      api.ErrCell,
		"f[]:" + strings.Repeat("0x0;", many) + "0;":   api.ErrFloat,
		"b[]:" + strings.Repeat("false;", many) + "f;": api.ErrCell,
	} {
		if v, e := cell.Parse(s); e != want || !value.Same(v, api.Value{}) {
			t.Errorf("Parse(%.20q): %v, want %v", s, e, want)
		}
	}
}

// P22.3: the lists of two results, or of a result and an argument, share no memory, and arguments stay as they are.
func TestMemory(t *testing.T) {
	numbers := append(make([]int64, 0, 8), 3, 1, 2)
	texts := append(make([]string, 0, 8), "b", "a;", "")
	copy(numbers[3:8], []int64{77, 77, 77, 77, 77})
	copy(texts[3:8], slices.Repeat([]string{"odd"}, 5))
	for _, v := range []api.Value{nums(api.KindInts, numbers...), list(texts...)} {
		form, e := cell.Print(v)
		if e != api.OK || form != write(v) {
			t.Errorf("Print = %q, %v", form, e)
		}
		first, _ := cell.Parse(form)
		second, _ := cell.Parse(form)
		for i := range first.Nums[:cap(first.Nums)] {
			first.Nums[:cap(first.Nums)][i] = 99
		}
		for i := range first.Texts[:cap(first.Texts)] {
			first.Texts[:cap(first.Texts)][i] = "changed"
		}
		if !value.Same(second, v) {
			t.Errorf("Parse = %+v, want %+v", second, v)
		}
	}
	if !slices.Equal(numbers[:8], []int64{3, 1, 2, 77, 77, 77, 77, 77}) || !slices.Equal(texts[:8], []string{"b", "a;", "", "odd", "odd", "odd", "odd", "odd"}) {
		t.Errorf("Print or Parse has changed %v or %q", numbers[:8], texts[:8])
	}
}

// P22.3: a text is no piece of its cell, and a cell no piece of a text.
func TestTextsAreCopies(t *testing.T) {
	place := func(s string) uintptr { return uintptr(unsafe.Pointer(unsafe.StringData(s))) }
	within := func(part, whole string) bool {
		return place(part) >= place(whole) && place(part) < place(whole)+uintptr(len(whole))
	}
	for _, s := range []string{"s:abc", "s[]:abc;", "s[]:a;bcd;"} {
		s = strings.Clone(s)
		v, _ := cell.Parse(s)
		for _, part := range append(v.Texts, v.Text) {
			if part != "" && within(part, s) {
				t.Errorf("%q is a piece of %q", part, s)
			}
		}
		if form, _ := cell.Print(v); within(form, v.Text) || within(v.Text, form) {
			t.Errorf("%q shares memory with its form", v.Text)
		}
	}
}
