package fault_test

import (
	"errors"
	"math"
	"slices"
	"strconv"
	"strings"
	"testing"

	"satchel/api"
	"satchel/fault"
)

// want is what the functions should answer for an error.
type want struct {
	code  api.Errno
	trail []string
	place int
	text  string
}

func wantAll(t *testing.T, err error, w want) {
	t.Helper()
	if c := fault.Code(err); c != w.code {
		t.Errorf("Code(%q) = %d, want %d", w.text, c, w.code)
	}
	if tr := fault.Trail(err); !slices.Equal(tr, w.trail) {
		t.Errorf("Trail(%q) = %q, want %q", w.text, tr, w.trail)
	}
	if p := fault.Place(err); p != w.place {
		t.Errorf("Place(%q) = %d, want %d", w.text, p, w.place)
	}
	if s := fault.Text(err); s != w.text {
		t.Errorf("Text = %q, want %q", s, w.text)
	}
}

// P3.1

func TestOf(t *testing.T) {
	if err := fault.Of(api.OK); err != nil {
		t.Errorf("Of(OK) = %v", err)
	}
	for _, e := range []api.Errno{api.ErrLong, api.ErrOther, api.ErrSame, 999, -1, math.MaxInt, math.MinInt} {
		if err := fault.Of(e); err != error(e) {
			t.Errorf("Of(%d) = %v", e, err)
		}
	}
}

func TestPlain(t *testing.T) {
	for _, text := range []string{"", "odd", "error 85", "a; b", "x 1: \x00\xff"} {
		err := fault.Plain(text)
		if err == nil || err.Error() != text {
			t.Errorf("Plain(%q) = %v", text, err)
		}
		var number api.Errno
		if errors.As(err, &number) {
			t.Errorf("Plain(%q) has the number %d", text, number)
		}
		wantAll(t, err, want{api.ErrOther, nil, -1, text})
	}
}

func TestWrap(t *testing.T) {
	if err := fault.Wrap("a", 1, nil); err != nil {
		t.Errorf("Wrap of nil = %v", err)
	}
	for _, inside := range []error{api.ErrLong, fault.Plain(""), fault.Wrap("in", 1, api.ErrId)} {
		for _, place := range []int{0, 7, -1, math.MaxInt, math.MinInt} {
			err := fault.Wrap("write", place, inside)
			f, ok := err.(*fault.Fault)
			if !ok || *f != (fault.Fault{Op: "write", Place: place, Err: inside}) {
				t.Errorf("Wrap(%d, %v) = %v", place, inside, err)
			}
			if f.Unwrap() != inside || errors.Unwrap(err) != inside {
				t.Errorf("Unwrap gives %v, want %v", f.Unwrap(), inside)
			}
			if err == fault.Wrap("write", place, inside) {
				t.Error("two calls of Wrap gave one Fault")
			}
		}
	}
}

func TestFaultOfNil(t *testing.T) {
	f := &fault.Fault{Op: "a", Place: 3}
	if f.Unwrap() != nil || f.Error() != "a 3: " {
		t.Errorf("Unwrap %v, Error %q", f.Unwrap(), f.Error())
	}
	wantAll(t, f, want{api.ErrOther, []string{"a"}, 3, "a 3: "})
}

func TestBothWithNil(t *testing.T) {
	if err := fault.Both(nil, nil); err != nil {
		t.Errorf("Both of nil = %v", err)
	}
	for _, err := range []error{api.ErrId, fault.Plain("x"), fault.Wrap("a", 1, api.ErrId), fault.Both(api.ErrId, api.ErrArg)} {
		if got := fault.Both(err, nil); got != err {
			t.Errorf("Both(%v, nil) = %v", err, got)
		}
		if got := fault.Both(nil, err); got != err {
			t.Errorf("Both(nil, %v) = %v", err, got)
		}
	}
}

// asked notes which errors errors.Is examines.
type asked struct {
	name string
	log  *[]string
}

func (a asked) Error() string { return a.name }

func (a asked) Is(error) bool {
	*a.log = append(*a.log, a.name)
	return false
}

func TestBothIsExaminedInOrder(t *testing.T) {
	var log []string
	named := func(name string) error { return asked{name, &log} }
	err := fault.Both(fault.Both(named("a"), fault.Wrap("x", 0, named("b"))), fault.Both(named("c"), named("d")))
	if errors.Is(err, api.ErrId) || strings.Join(log, " ") != "a b c d" {
		t.Errorf("errors.Is examined %v", log)
	}
	var found asked
	if !errors.As(err, &found) || found.name != "a" {
		t.Errorf("errors.As found %q", found.name)
	}
}

func TestBothHoldsBoth(t *testing.T) {
	a, b := fault.Plain("x"), fault.Plain("x")
	err := fault.Both(a, b)
	if !errors.Is(err, a) || !errors.Is(err, b) || errors.Is(err, fault.Plain("x")) {
		t.Error("errors.Is doesn't find exactly what was joined")
	}
	if err.Error() != "x; x" {
		t.Errorf("Error = %q", err.Error())
	}
	parts, ok := err.(interface{ Unwrap() []error })
	if !ok || !slices.Equal(parts.Unwrap(), []error{a, b}) {
		t.Fatal("Unwrap doesn't give both")
	}
	clear(parts.Unwrap())
	if fault.Text(err) != "x; x" {
		t.Error("what Unwrap gives is shared")
	}
}

// P3.2

func TestCode(t *testing.T) {
	three, plain := fault.Of(3), fault.Plain("error 5")
	for _, c := range []struct {
		err  error
		want api.Errno
	}{
		{nil, api.OK},
		{three, 3},
		{api.ErrOther, api.ErrOther},
		{fault.Of(-4), -4},
		{plain, api.ErrOther},
		{fault.Wrap("a", 4, three), 3},
		{fault.Wrap("a", 4, plain), api.ErrOther},
		{fault.Both(three, fault.Of(5)), 3},
		{fault.Both(fault.Of(5), three), 5},
		{fault.Both(plain, three), 3},
		{fault.Both(plain, plain), api.ErrOther},
		{fault.Both(api.ErrOther, three), api.ErrOther},
		{fault.Both(fault.Wrap("a", 0, plain), fault.Wrap("b", 0, three)), 3},
		{fault.Both(fault.Wrap("a", 0, fault.Both(plain, three)), fault.Of(5)), 3},
		{fault.Both(fault.Both(plain, plain), fault.Both(plain, fault.Of(8))), 8},
	} {
		if code := fault.Code(c.err); code != c.want {
			t.Errorf("Code(%q) = %d, want %d", fault.Text(c.err), code, c.want)
		}
	}
}

func TestFirstFault(t *testing.T) {
	inner := fault.Wrap("in", 1, api.ErrId)
	outer := fault.Wrap("out", 2, inner)
	other := fault.Wrap("other", 3, fault.Plain("x"))
	for _, c := range []struct{ err, want error }{
		{nil, nil},
		{api.ErrId, nil},
		{fault.Both(api.ErrId, fault.Plain("x")), nil},
		{inner, inner},
		{outer, outer},
		{fault.Both(other, outer), other},
		{fault.Both(outer, other), outer},
		{fault.Both(api.ErrId, inner), inner},
		{fault.Both(fault.Both(fault.Plain("y"), api.ErrId), fault.Both(other, inner)), other},
	} {
		var f *fault.Fault
		ok := errors.As(c.err, &f)
		if ok != (c.want != nil) || ok && error(f) != c.want {
			t.Errorf("errors.As(%q) found %v, want %v", fault.Text(c.err), f, c.want)
		}
	}
}

// P3.3

func TestHas(t *testing.T) {
	err := fault.Both(fault.Wrap("a", 5, fault.Both(api.ErrOther, fault.Plain("error 6"))), fault.Both(fault.Of(-7), fault.Wrap("8", 8, api.ErrId)))
	for e := api.Errno(-300); e < 300; e++ {
		found := e == api.ErrOther || e == -7 || e == api.ErrId
		if fault.Has(err, e) != found || errors.Is(err, e) != found {
			t.Errorf("Has(%d) = %v, errors.Is %v, want %v", e, fault.Has(err, e), errors.Is(err, e), found)
		}
	}
}

func TestHasNeitherNilNorOK(t *testing.T) {
	for _, err := range []error{nil, api.ErrId, fault.Plain(""), fault.Wrap("", 0, api.ErrId), fault.Both(api.ErrId, api.ErrArg), &fault.Fault{}} {
		if fault.Has(err, api.OK) {
			t.Errorf("OK is in %q", fault.Text(err))
		}
	}
	for _, e := range []api.Errno{api.OK, api.ErrLong, api.ErrOther} {
		if fault.Has(nil, e) {
			t.Errorf("%d is in nil", e)
		}
	}
	// Code answers ErrOther where there is no number; that isn't one that occurs.
	if fault.Has(fault.Plain("x"), api.ErrOther) {
		t.Error("ErrOther is in a plain error")
	}
}

// P3.4

func TestPath(t *testing.T) {
	plain := fault.Plain("p")
	for _, c := range []struct {
		err   error
		trail string
		place int
	}{
		{nil, "", -1},
		{api.ErrId, "", -1},
		{plain, "", -1},
		{fault.Both(plain, api.ErrId), "", -1},
		{fault.Wrap("a", 1, fault.Wrap("b", 2, fault.Wrap("c", 3, plain))), "a b c", 3},
		{fault.Wrap("a", -5, api.ErrId), "a", -5},
		// a contains a number.
		{fault.Both(fault.Wrap("a", 1, api.ErrId), fault.Wrap("b", 2, api.ErrId)), "a", 1},
		{fault.Both(api.ErrId, fault.Wrap("b", 2, api.ErrId)), "", -1},
		{fault.Both(fault.Wrap("a", 1, api.ErrOther), fault.Wrap("b", 2, api.ErrId)), "a", 1},
		{fault.Both(fault.Wrap("a", 1, api.ErrId), fault.Wrap("b", 2, plain)), "a", 1},
		// Only b does.
		{fault.Both(fault.Wrap("a", 1, plain), fault.Wrap("b", 2, api.ErrId)), "b", 2},
		{fault.Both(fault.Wrap("a", 1, plain), api.ErrId), "", -1},
		// None does.
		{fault.Both(fault.Wrap("a", 1, plain), fault.Wrap("b", 2, plain)), "a", 1},
		{fault.Both(plain, fault.Wrap("b", 2, plain)), "", -1},
		// Inside Faults, and on both sides.
		{fault.Wrap("o", 9, fault.Both(fault.Wrap("a", 1, plain), fault.Wrap("b", 2, api.ErrId))), "o b", 2},
		{fault.Wrap("o", 9, fault.Both(plain, api.ErrId)), "o", 9},
		{fault.Both(fault.Wrap("a", 1, fault.Both(fault.Wrap("b", 2, plain), fault.Wrap("c", 3, api.ErrId))), fault.Wrap("d", 4, api.ErrId)), "a c", 3},
		{fault.Both(fault.Both(fault.Wrap("a", 1, plain), plain), fault.Both(fault.Wrap("b", 2, plain), fault.Wrap("c", 3, api.ErrId))), "c", 3},
		{fault.Both(fault.Both(fault.Wrap("a", 1, plain), fault.Wrap("b", 2, plain)), fault.Both(fault.Wrap("c", 3, plain), fault.Wrap("d", 4, plain))), "a", 1},
	} {
		if trail := strings.Join(fault.Trail(c.err), " "); trail != c.trail {
			t.Errorf("Trail(%q) = %q, want %q", fault.Text(c.err), trail, c.trail)
		}
		if place := fault.Place(c.err); place != c.place {
			t.Errorf("Place(%q) = %d, want %d", fault.Text(c.err), place, c.place)
		}
	}
}

func TestTrailIsNew(t *testing.T) {
	err := fault.Wrap("a", 1, fault.Wrap("b", 2, api.ErrId))
	first, second := fault.Trail(err), fault.Trail(err)
	clear(first[:cap(first)])
	if !slices.Equal(second, []string{"a", "b"}) || !slices.Equal(fault.Trail(err), []string{"a", "b"}) {
		t.Error("two results share memory")
	}
}

// P3.5

func TestText(t *testing.T) {
	for _, c := range []struct {
		err  error
		want string
	}{
		{nil, ""},
		{api.ErrQuota, "error 85"},
		{fault.Of(-12), "error -12"},
		{fault.Of(math.MinInt), "error " + strconv.Itoa(math.MinInt)},
		{fault.Plain(""), ""},
		{fault.Plain("odd"), "odd"},
		{fault.Wrap("", 0, fault.Plain("")), " 0: "},
		{fault.Wrap("a b", -3, api.ErrLong), "a b -3: error 1"},
		{fault.Wrap("a", math.MaxInt, fault.Plain("p")), "a 9223372036854775807: p"},
		{fault.Both(fault.Plain(""), fault.Plain("")), "; "},
		{fault.Both(api.ErrLong, api.ErrLong), "error 1; error 1"},
		{fault.Both(fault.Both(fault.Plain("a"), fault.Plain("b")), fault.Plain("c")), "a; b; c"},
		{fault.Both(fault.Plain("a"), fault.Both(fault.Plain("b"), fault.Plain("c"))), "a; b; c"},
		{fault.Wrap("o", 1, fault.Both(fault.Wrap("a", 2, fault.Plain("p")), api.ErrId)), "o 1: a 2: p; error 3"},
	} {
		if s := fault.Text(c.err); s != c.want {
			t.Errorf("Text = %q, want %q", s, c.want)
		}
		if c.err != nil && c.err.Error() != c.want {
			t.Errorf("Error = %q, want %q", c.err.Error(), c.want)
		}
	}
}

func TestExamples(t *testing.T) {
	err := fault.Wrap("dump", 1, fault.Wrap("write", 7, fault.Of(85)))
	wantAll(t, err, want{85, []string{"dump", "write"}, 7, "dump 1: write 7: error 85"})
	if !fault.Has(err, 85) {
		t.Error("85 isn't found")
	}
	wantAll(t, fault.Both(fault.Plain("odd"), fault.Wrap("x", 2, fault.Of(3))), want{3, []string{"x"}, 2, "odd; x 2: error 3"})
	wantAll(t, fault.Both(fault.Wrap("y", 4, fault.Plain("a")), fault.Plain("b")), want{api.ErrOther, []string{"y"}, 4, "y 4: a; b"})
}

// All promises, on errors of every small shape.

// tree is an error, told from outside: a number, a plain error, a Fault of kids[0], or two joined.
type tree struct {
	number api.Errno
	text   string
	place  int
	kids   []*tree
}

func (m *tree) err() error {
	switch {
	case len(m.kids) == 2:
		return fault.Both(m.kids[0].err(), m.kids[1].err())
	case len(m.kids) == 1:
		return fault.Wrap(m.text, m.place, m.kids[0].err())
	case m.number != api.OK:
		return fault.Of(m.number)
	}
	return fault.Plain(m.text)
}

func (m *tree) numbers() []api.Errno {
	var all []api.Errno
	if m.number != api.OK {
		all = append(all, m.number)
	}
	for _, kid := range m.kids {
		all = append(all, kid.numbers()...)
	}
	return all
}

// faults are those on the path, the outermost first.
func (m *tree) faults() []*tree {
	switch {
	case len(m.kids) == 1:
		return append([]*tree{m}, m.kids[0].faults()...)
	case len(m.kids) == 2 && len(m.kids[0].numbers()) == 0 && len(m.kids[1].numbers()) > 0:
		return m.kids[1].faults()
	case len(m.kids) == 2:
		return m.kids[0].faults()
	}
	return nil
}

func (m *tree) sentence() string {
	switch {
	case len(m.kids) == 2:
		return m.kids[0].sentence() + "; " + m.kids[1].sentence()
	case len(m.kids) == 1:
		return m.text + " " + strconv.Itoa(m.place) + ": " + m.kids[0].sentence()
	case m.number != api.OK:
		return "error " + strconv.Itoa(int(m.number))
	}
	return m.text
}

func (m *tree) want() want {
	w := want{code: api.ErrOther, place: -1, text: m.sentence()}
	if all := m.numbers(); len(all) > 0 {
		w.code = all[0]
	}
	for _, f := range m.faults() {
		w.trail = append(w.trail, f.text)
		w.place = f.place
	}
	return w
}

// forest gives a tree of each shape of so many parts; next numbers the parts, so that no two are the same.
func forest(size int, next *int) []*tree {
	*next++
	if size == 1 {
		return []*tree{{number: api.Errno(*next)}, {text: "p" + strconv.Itoa(*next)}}
	}
	var all []*tree
	for _, kid := range forest(size-1, next) {
		*next++
		all = append(all, &tree{text: "f" + strconv.Itoa(*next), place: *next, kids: []*tree{kid}})
	}
	for left := 1; left < size-1; left++ {
		for _, a := range forest(left, next) {
			for _, b := range forest(size-1-left, next) {
				all = append(all, &tree{kids: []*tree{a, b}})
			}
		}
	}
	return all
}

func TestEveryShape(t *testing.T) {
	next, count := 0, 0
	for size := 1; size <= 9; size++ {
		for _, m := range forest(size, &next) {
			count++
			err := m.err()
			wantAll(t, err, m.want())
			numbers := m.numbers()
			var number api.Errno
			if errors.As(err, &number) != (len(numbers) > 0) || len(numbers) > 0 && number != numbers[0] {
				t.Errorf("errors.As(%q) found %d", m.sentence(), number)
			}
			for _, e := range append(numbers, 1, api.Errno(next+1)) {
				found := slices.Contains(numbers, e)
				if fault.Has(err, e) != found || errors.Is(err, e) != found {
					t.Errorf("Has(%q, %d) isn't %v", m.sentence(), e, found)
				}
			}
		}
	}
	if count < 1000 {
		t.Errorf("only %d shapes", count)
	}
}

// What the functions answer hangs on what an error holds now, also where a caller put it together.

func TestErrorsOfCallers(t *testing.T) {
	f := &fault.Fault{Op: "a", Place: 1, Err: errors.New("p")}
	err := fault.Both(f, &fault.Fault{Op: "b", Place: 2, Err: api.ErrId})
	wantAll(t, err, want{api.ErrId, []string{"b"}, 2, "a 1: p; b 2: error 3"})
	f.Op, f.Place, f.Err = "c", 4, api.ErrArg
	wantAll(t, err, want{api.ErrArg, []string{"c"}, 4, "c 4: error 2; b 2: error 3"})
	f.Err = nil
	wantAll(t, err, want{api.ErrId, []string{"b"}, 2, "c 4: ; b 2: error 3"})
	wantAll(t, errors.Join(f, fault.Wrap("b", 2, api.ErrId)), want{api.ErrId, []string{"b"}, 2, "c 4: ; b 2: error 3"})
	wantAll(t, errors.Join(f, fault.Wrap("b", 2, errors.New("p"))), want{api.ErrOther, []string{"c"}, 4, "c 4: ; b 2: p"})
}

// P1 and P2

const depth = 1 << 16

// nested wraps err so deep, in Faults and in pairs whose other half holds no number.
func nested(err error, leans func(a, b error) error) error {
	for i := range depth / 2 {
		err = leans(fault.Wrap("o", i, err), fault.Plain("p"))
	}
	return err
}

func TestDeepErrors(t *testing.T) {
	swapped := func(a, b error) error { return fault.Both(b, a) }
	for _, leans := range []func(a, b error) error{fault.Both, swapped} {
		for range 2 {
			err := nested(api.ErrId, leans)
			if fault.Code(err) != api.ErrId || fault.Has(err, api.ErrArg) || !fault.Has(err, api.ErrId) {
				t.Error("the number isn't found")
			}
			if len(fault.Trail(err)) != depth/2 || fault.Place(err) != 0 {
				t.Errorf("%d Faults, place %d", len(fault.Trail(err)), fault.Place(err))
			}
			if s := fault.Text(err); strings.Count(s, "o ") != depth/2 || strings.Count(s, "p") != depth/2 {
				t.Errorf("a text of %d bytes", len(s))
			}
		}
	}
	err := nested(fault.Plain("x"), fault.Both)
	if fault.Code(err) != api.ErrOther || len(fault.Trail(err)) != depth/2 {
		t.Error("no number: the path is wrong")
	}
	if err := nested(fault.Plain("x"), swapped); len(fault.Trail(err)) != 0 || fault.Place(err) != -1 {
		t.Error("no number: the path is wrong")
	}
}
