package tool_test

import (
	"reflect"
	"slices"
	"strconv"
	"testing"

	"satchel/api"
	"satchel/tool"
)

// area is the memory of a slice, with its spare capacity.
type area struct {
	from, to uintptr
	what     string
}

// areas finds all slices in a value.
func areas(v reflect.Value, what string) []area {
	var found []area
	switch v.Kind() {
	case reflect.Slice:
		if size := uintptr(v.Cap()) * v.Type().Elem().Size(); size > 0 {
			found = append(found, area{v.Pointer(), v.Pointer() + size, what})
		}
		for i := range v.Len() {
			found = append(found, areas(v.Index(i), what+"["+strconv.Itoa(i)+"]")...)
		}
	case reflect.Struct:
		for i := range v.NumField() {
			found = append(found, areas(v.Field(i), what+"."+v.Type().Field(i).Name)...)
		}
	}
	return found
}

// wantApart finds memory that two slices of the values share.
func wantApart(t *testing.T, values ...any) {
	t.Helper()
	var all []area
	for i, v := range values {
		all = append(all, areas(reflect.ValueOf(v), "value "+strconv.Itoa(i))...)
	}
	slices.SortFunc(all, func(a, b area) int {
		if a.from < b.from {
			return -1
		}
		return 1
	})
	for i := 1; i < len(all); i++ {
		if all[i-1].to > all[i].from {
			t.Errorf("%s and %s share memory", all[i-1].what, all[i].what)
		}
	}
}

// smudge overwrites everything in a value's slices, up to their capacities.
func smudge(v reflect.Value) {
	switch v.Kind() {
	case reflect.Slice:
		v = v.Slice(0, v.Cap())
		for i := range v.Len() {
			smudge(v.Index(i))
		}
	case reflect.Struct:
		for i := range v.NumField() {
			smudge(v.Field(i))
		}
	case reflect.String:
		v.SetString("odd")
	case reflect.Uint8:
		v.SetUint(v.Uint() ^ 0xff)
	case reflect.Bool:
		v.SetBool(!v.Bool())
	default:
		v.SetInt(77)
	}
}

// roomier gives a deep copy of a value, whose slices have spare capacity, in which something stands.
func roomier(v reflect.Value) reflect.Value {
	c := reflect.New(v.Type()).Elem()
	switch v.Kind() {
	case reflect.Slice:
		c.Set(reflect.MakeSlice(v.Type(), v.Len(), v.Len()+3))
		for i := range v.Len() {
			c.Index(i).Set(roomier(v.Index(i)))
		}
		smudge(c.Slice3(v.Len(), c.Cap(), c.Cap()))
	case reflect.Struct:
		for i := range v.NumField() {
			c.Field(i).Set(roomier(v.Field(i)))
		}
	default:
		c.Set(v)
	}
	return c
}

func roomy[T any](v T) T { return roomier(reflect.ValueOf(v)).Interface().(T) }

// whole gives all that stands in a value's slices, up to their capacities.
func whole(v reflect.Value) []any {
	var all []any
	switch v.Kind() {
	case reflect.Slice:
		v = v.Slice(0, v.Cap())
		for i := range v.Len() {
			all = append(all, whole(v.Index(i))...)
		}
	case reflect.Struct:
		for i := range v.NumField() {
			all = append(all, whole(v.Field(i))...)
		}
	default:
		all = append(all, v.Interface())
	}
	return all
}

// wantKept finds out whether an argument, which roomy made, is as it was.
func wantKept[T any](t *testing.T, now, was T) {
	t.Helper()
	if !reflect.DeepEqual(whole(reflect.ValueOf(now)), whole(reflect.ValueOf(roomy(was)))) {
		t.Error("an argument was changed")
	}
}

// P29.7
func TestPlayMemory(t *testing.T) {
	disk := fullDisk()
	lines := []string{"dump one d", "frob", "restore d old v1", "verify .stage", "verify missing", "export old x csv", "import x y v2", "migrate text z"}
	for at := -1; at < 120; at += 4 {
		given := api.Job{Disk: disk, Quota: 1 << 20, At: at, Fate: api.Fate{Names: 3, Keep: []bool{true, false, true}}, Lines: lines}
		job := roomy(given)
		first, second := tool.Play(job), tool.Play(job)
		wantKept(t, job, given)
		wantApart(t, job, first, second)
		smudge(reflect.ValueOf(job.Disk))
		smudge(reflect.ValueOf(job.Lines))
		smudge(reflect.ValueOf(&first).Elem())
		want := tool.Play(given)
		if second.Code != want.Code || !slices.EqualFunc(second.Reports, want.Reports, sameReport) || !sameDisk(second.Seen, want.Seen) || !sameDisk(second.After, want.After) {
			t.Errorf("at %d: %v, want %v", at, second.Reports, want.Reports)
		}
	}
}

// P29.7
func TestRestartMemory(t *testing.T) {
	for _, given := range wholeDisks() {
		disk := roomy(given)
		first, _ := tool.Restart(disk)
		second, _ := tool.Restart(disk)
		wantKept(t, disk, given)
		wantApart(t, disk, first, second)
		smudge(reflect.ValueOf(disk))
		smudge(reflect.ValueOf(first))
		if !sameDisk(second, without(given, ".stage")) {
			t.Errorf("%s became %s", told(given), told(second))
		}
	}
}

// P29.7
func TestRunMemory(t *testing.T) {
	f, g := opened(t, fullDisk(), 1<<20, -1), opened(t, fullDisk(), 1<<20, -1)
	for _, line := range []string{"frob", "dump", "dump none d", "dump one one", "verify text.bad", "dump one d"} {
		first, second, other := tool.Run(f, line), tool.Run(f, line), tool.Run(g, line)
		wantApart(t, first, second, other)
		smudge(reflect.ValueOf(&first).Elem())
		if !sameReport(second, other) {
			t.Errorf("%q: %v, and then %v", line, other, second)
		}
	}
}
