package kinds_test

import (
	"reflect"
	"slices"
	"strconv"
	"testing"

	"satchel/api"
	"satchel/graph"
	"satchel/kinds"
)

// area is the memory of a slice, with its spare capacity.
type area struct {
	from, to uintptr
	what     string
}

// areas finds all slices in a value.
func areas(v reflect.Value, what string) []area {
	var found []area
	switch v.Kind() {
	case reflect.Slice:
		if size := uintptr(v.Cap()) * v.Type().Elem().Size(); size > 0 {
			found = append(found, area{v.Pointer(), v.Pointer() + size, what})
		}
		for i := range v.Len() {
			found = append(found, areas(v.Index(i), what+"["+strconv.Itoa(i)+"]")...)
		}
	case reflect.Struct:
		for i := range v.NumField() {
			found = append(found, areas(v.Field(i), what+"."+v.Type().Field(i).Name)...)
		}
	}
	return found
}

// wantApart finds memory that two slices of the values share.
func wantApart(t *testing.T, values ...any) {
	t.Helper()
	var all []area
	for i, v := range values {
		all = append(all, areas(reflect.ValueOf(v), "value "+strconv.Itoa(i))...)
	}
	slices.SortFunc(all, func(a, b area) int {
		if a.from < b.from {
			return -1
		}
		return 1
	})
	for i := 1; i < len(all); i++ {
		if all[i-1].to > all[i].from {
			t.Errorf("%s and %s share memory", all[i-1].what, all[i].what)
		}
	}
}

// smudge overwrites everything in a value's slices, up to their capacities.
func smudge(v reflect.Value) {
	switch v.Kind() {
	case reflect.Slice:
		v = v.Slice(0, v.Cap())
		for i := range v.Len() {
			smudge(v.Index(i))
		}
	case reflect.Struct:
		for i := range v.NumField() {
			smudge(v.Field(i))
		}
	case reflect.String:
		v.SetString("odd")
	case reflect.Uint8:
		v.SetUint(v.Uint() ^ 0xff)
	default:
		v.SetInt(77)
	}
}

// roomier gives a deep copy of a value, whose slices have spare capacity.
func roomier(v reflect.Value) reflect.Value {
	c := reflect.New(v.Type()).Elem()
	switch v.Kind() {
	case reflect.Slice:
		c.Set(reflect.MakeSlice(v.Type(), v.Len(), v.Len()+3))
		for i := range v.Len() {
			c.Index(i).Set(roomier(v.Index(i)))
		}
		rest := c.Slice3(v.Len(), c.Cap(), c.Cap())
		smudge(rest)
	case reflect.Struct:
		for i := range v.NumField() {
			c.Field(i).Set(roomier(v.Field(i)))
		}
	default:
		c.Set(v)
	}
	return c
}

func roomy[T any](v T) T {
	return roomier(reflect.ValueOf(v)).Interface().(T)
}

// whole gives all that stands in a value's slices, up to their capacities.
func whole(v reflect.Value) []any {
	var all []any
	switch v.Kind() {
	case reflect.Slice:
		v = v.Slice(0, v.Cap())
		for i := range v.Len() {
			all = append(all, whole(v.Index(i))...)
		}
	case reflect.Struct:
		for i := range v.NumField() {
			all = append(all, whole(v.Field(i))...)
		}
	default:
		all = append(all, v.Interface())
	}
	return all
}

// wantKept finds out whether an argument, which roomy made, is as it was.
func wantKept[T any](t *testing.T, now, was T) {
	t.Helper()
	if !reflect.DeepEqual(whole(reflect.ValueOf(now)), whole(reflect.ValueOf(roomy(was)))) {
		t.Error("an argument was changed")
	}
}

// P26.7, P26.4, P26.5
func TestMakeMemory(t *testing.T) {
	for kind := 1; kind <= 5; kind++ {
		g := roomy(sample())
		first, _ := kinds.Make(kind, g)
		second, _ := kinds.Make(kind, g)
		kinds.Bound(kind, g)
		wantKept(t, g, sample())
		wantApart(t, first, second, g)
		smudge(reflect.ValueOf(first))
		smudge(reflect.ValueOf(g))
		third, e := kinds.Make(kind, sample())
		if want, _ := write(kind, sample()); e != api.OK || !sameFiles(second, want) || !sameFiles(third, want) {
			t.Errorf("Make(%d) = %q, and then %q", kind, outline(second), outline(third))
		}
	}
}

// P26.7, P26.3, P26.2
func TestLoadMemory(t *testing.T) {
	for kind := 1; kind <= 5; kind++ {
		made, _ := write(kind, sample())
		files := roomy(made)
		first, _, _ := kinds.Load(files)
		second, _, _ := kinds.Load(files)
		kinds.Sniff(files)
		wantKept(t, files, made)
		wantApart(t, first, second, files)
		smudge(reflect.ValueOf(files))
		smudge(reflect.ValueOf(first.Nodes))
		smudge(reflect.ValueOf(first.Rels))
		if !graph.Same(second, sample()) {
			t.Errorf("Load of kind %d = %+v", kind, second)
		}
		if g, k, e := kinds.Load(made); !graph.Same(g, sample()) || k != kind || e != api.OK {
			t.Errorf("Load of kind %d again = %+v, %d, %v", kind, g, k, e)
		}
	}
}
