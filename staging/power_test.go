package staging_test

import (
	"errors"
	"reflect"
	"slices"
	"strings"
	"testing"

	"satchel/api"
	"satchel/fault"
	"satchel/staging"
	"satchel/vfs"
)

func powerFault(op string, place int) *fault.Fault {
	return &fault.Fault{Op: op, Place: place, Err: api.ErrPower}
}

// P28.1

func TestCleanupWithoutPower(t *testing.T) {
	for _, disk := range disks() {
		f := opened(t, disk, 99, 0)
		if err := staging.Cleanup(f); !isFault(err, powerFault("cleanup", 0)) {
			t.Errorf("%s: %v", told(disk), err)
		}
		wantLeft(t, "Cleanup", f, disk)
	}
}

// wantCleaned finds out whether what a loss of power leaves becomes one of the disks by a Cleanup, and tells which.
func wantCleaned(t *testing.T, what string, f *vfs.FS, fate api.Fate, disks ...[]api.Dir) int {
	t.Helper()
	g := opened(t, f.Durable(fate), 0, -1)
	if err := staging.Cleanup(g); err != nil {
		t.Errorf("%s: Cleanup of what is left: %v", what, err)
	}
	s := told(g.View())
	which := slices.IndexFunc(disks, func(d []api.Dir) bool { return told(d) == s })
	if which < 0 {
		t.Errorf("%s: %v leaves %s, which becomes %s", what, fate, told(f.Durable(fate)), s)
	}
	return which
}

func TestPowerFailsInCleanup(t *testing.T) {
	disk := []api.Dir{dir(".stage", file("a", "1"), file("b", ""), file("c", "22")), dir("d", file("x", "3")), dir("e")}
	whole := opened(t, disk, 99, -1)
	staging.Cleanup(whole)
	for at := 1; at <= whole.Steps()+1; at++ {
		f := opened(t, disk, 99, at)
		err := staging.Cleanup(f)
		for _, fate := range fates(6, 1) {
			wantCleaned(t, "Cleanup", f, fate, disk[1:])
		}
		// With its last change it is done, even if the power goes then.
		if at >= whole.Steps() {
			if err != nil {
				t.Errorf("at %d: %v", at, err)
			}
			wantLeft(t, "Cleanup", f, disk[1:])
		} else if !isFault(err, powerFault("cleanup", 0)) {
			t.Errorf("at %d: %v", at, err)
		}
	}
}

// P28.2
func TestPathsComeBeforePower(t *testing.T) {
	for _, disk := range disks() {
		for _, dst := range []string{"", ".stage", "D"} {
			f := opened(t, disk, 99, 0)
			if err := staging.Publish(f, dst, nil); !isFault(err, &fault.Fault{Op: "paths", Place: 0, Err: api.ErrPath}) {
				t.Errorf("%q: %v", dst, err)
			}
		}
		f := opened(t, disk, 99, 0)
		if err := staging.Publish(f, "d", []api.File{file("B", ""), file("a", strings.Repeat("1", 100))}); !isFault(err, powerFault("cleanup", 0)) {
			t.Errorf("without power: %v", err)
		}
	}
}

// failed is a case of publishing.
type failed struct {
	name  string
	quota int
	dst   string
	disk  []api.Dir
	files []api.File
}

func cases() []failed {
	full := []api.Dir{dir(".stage", file("a", "junk"), file("b", "")), dir("d", file("a", "1"), file("old", "23")), dir("src", file("s", "4"))}
	two := []api.File{file("b", "22"), file("a", "333")}
	return []failed{
		{"a new one", 99, "new", full, two},
		{"in the place of another", 99, "d", full, two},
		{"in the place of an empty one", 99, "d", []api.Dir{dir("d"), dir("e")}, two},
		{"on an empty disk", 99, "d", nil, two},
		{"no files", 99, "d", full, nil},
		{"no bytes", 0, "d", full, []api.File{file("x", ""), file("a", "")}},
		{"as it was", 99, "d", full, full[1].Files},
		{"one file", 99, "src", full, []api.File{file("a", "1")}},
		{"pieces", 99999, "d", full, []api.File{file("c", "1"), file("b", pattern(9000)), file("a", "3")}},
		{"too many bytes", 8, "d", full, two},
		{"too many bytes at once", 4, "d", full, two},
		{"too many pieces", 9000, "d", full, []api.File{file("c", "1"), file("b", pattern(9000)), file("a", "3")}},
		{"a name twice", 99, "d", full, append(two, file("b", "4"))},
		{"a wrong name", 99, "d", full, append(two, file("B", "4"))},
		{"a wrong name at once", 99, "d", nil, []api.File{file("", "4")}},
	}
}

// wantStep finds out whether a Fault is one of a step behind the second one, in which the stage has so many files.
func wantStep(t *testing.T, what string, f *fault.Fault, staged int) {
	t.Helper()
	place := 0
	switch f.Op {
	case "create":
		place = staged
	case "write", "sync":
		place = staged - 1
	case "mkdir", "names", "rename", "safe":
	default:
		t.Errorf("%s: a Fault for %s", what, f.Op)
	}
	if f.Place != place {
		t.Errorf("%s: a Fault for %s, %d, want %d", what, f.Op, f.Place, place)
	}
}

// staged tells how many files the stage has.
func staged(f *vfs.FS) int {
	for _, d := range f.Durable(everything()) {
		if d.Name == ".stage" {
			return len(d.Files)
		}
	}
	return 0
}

// wantPowerError finds out whether err may be that of a Publish in which the power has failed. stopped is the Fault with which it ends otherwise.
func wantPowerError(t *testing.T, what string, err error, stopped *fault.Fault, f *vfs.FS) {
	t.Helper()
	var first *fault.Fault
	if !errors.As(err, &first) {
		t.Errorf("%s: %v", what, err)
		return
	}
	cleanup := powerFault("cleanup", 0)
	if reflect.DeepEqual(err, error(cleanup)) {
		return
	}
	if !reflect.DeepEqual(err, fault.Both(first, cleanup)) {
		t.Errorf("%s: %v, of which the second part is no Fault of cleanup", what, err)
	}
	if stopped != nil && reflect.DeepEqual(first, stopped) {
		return
	}
	if fault.Code(err) != api.ErrPower || first.Err != api.ErrPower {
		t.Errorf("%s: %v", what, err)
	}
	wantStep(t, what, first, staged(f))
}

// P28.5, P28.4
func TestPowerFails(t *testing.T) {
	for _, c := range cases() {
		old := without(c.disk, ".stage")
		stopped, end := expected(c.disk, c.quota, c.dst, c.files)
		whole := opened(t, c.disk, c.quota, -1)
		staging.Publish(whole, c.dst, c.files)
		for at := 0; at <= whole.Steps()+1; at++ {
			f := opened(t, c.disk, c.quota, at)
			err := staging.Publish(f, c.dst, c.files)
			for _, fate := range fates(3*len(c.files)+5, 4) {
				// A Publish that ends with a Fault of its own leaves the old disk, which is its end, too.
				which := wantCleaned(t, c.name, f, fate, end, old)
				if err == nil && which != 0 {
					t.Errorf("%s: it has returned nil, but the old disk is left", c.name)
				}
			}
			// With its last change it is done, even if the power goes then.
			if at < whole.Steps() {
				wantPowerError(t, c.name, err, stopped, f)
				continue
			}
			if !isFault(err, stopped) {
				t.Errorf("%s: %v, want %v", c.name, err, stopped)
			}
			wantLeft(t, c.name, f, end)
		}
	}
}

// P28.4, P28.5

// The stage that a failed step leaves stands there only if the power fails while it is removed; then the step's own number is told.
func TestPowerFailsWhileTheStageIsRemoved(t *testing.T) {
	disk := []api.Dir{dir("d", file("old", "1"))}
	files := []api.File{file("a", "1"), file("b", "22"), file("c", "333")}
	want := &fault.Fault{Op: "write", Place: 2, Err: api.ErrQuota}
	joined := 0
	for at := 0; ; at++ {
		f := opened(t, disk, 6, at)
		err := staging.Publish(f, "d", files)
		switch {
		case isFault(err, want):
			// The removal makes five changes; if the power fails ahead of the first one, the write meets that.
			if joined != 4 {
				t.Errorf("%d times both faults", joined)
			}
			return
		case reflect.DeepEqual(err, fault.Both(want, powerFault("cleanup", 0))):
			joined++
			if fault.Code(err) != api.ErrQuota || !fault.Has(err, api.ErrPower) || !slices.Equal(fault.Trail(err), []string{"write"}) || fault.Place(err) != 2 || fault.Text(err) != "write 2: error 85; cleanup 0: error 80" {
				t.Errorf("%v", err)
			}
		case joined > 0 || fault.Code(err) != api.ErrPower:
			t.Errorf("at %d: %v", at, err)
		}
	}
}

// P28.5

// Unsafe names that were there before: a stage comes back, or was never safe.
func TestPowerFailsAfterOtherCalls(t *testing.T) {
	files := []api.File{file("n", "22"), file("m", "333")}
	old := []api.Dir{dir("d", file("old", "1"))}
	for _, calls := range []func(*vfs.FS){
		func(f *vfs.FS) { f.Mkdir(".stage") },
		func(f *vfs.FS) { f.Mkdir(".stage"); f.Create(".stage", "n"); f.Write(".stage", "n", []byte("9")) },
		func(f *vfs.FS) { f.Mkdir(".stage"); f.SyncNames(); f.Rmdir(".stage") },
		func(f *vfs.FS) { f.Mkdir(".stage"); f.Create(".stage", "n"); f.SyncNames(); f.Remove(".stage", "n") },
	} {
		for at := 5; at < 40; at++ {
			f := opened(t, old, 99, at)
			calls(f)
			err := staging.Publish(f, "d", files)
			for _, fate := range fates(10, 3) {
				which := wantCleaned(t, "after other calls", f, fate, with(old, "d", files), old)
				if err == nil && which != 0 {
					t.Errorf("%v leaves the old disk", fate)
				}
			}
		}
	}
}

// moment is what stands there between two changes: what is seen, what is safe of it, and what would be if all names were.
type moment [3]string

func momentOf(f *vfs.FS) moment {
	return moment{told(f.Durable(everything())), told(f.Durable(api.Fate{})), told(f.Durable(api.Fate{Names: 1 << 20}))}
}

// moments goes through Publish change by change.
func moments(t *testing.T, c failed) []moment {
	var list []moment
	for at := 0; ; at++ {
		f := opened(t, c.disk, c.quota, at)
		staging.Publish(f, c.dst, c.files)
		list = append(list, momentOf(f))
		if !f.Down() {
			return slices.Compact(list)
		}
	}
}

// replay makes the calls that the chapter tells, and keeps what stands there after each of them.
func replay(t *testing.T, c failed) []moment {
	f := opened(t, c.disk, c.quota, -1)
	list := []moment{momentOf(f)}
	did := func(es ...api.Errno) bool {
		list = append(list, momentOf(f))
		return es[len(es)-1] == api.OK
	}
	clean := func() {
		names, e := f.List(".stage")
		for _, name := range names {
			did(f.Remove(".stage", name))
		}
		if e == api.OK {
			did(f.Rmdir(".stage"))
			did(f.SyncNames())
		}
	}
	clean()
	did(f.Mkdir(".stage"))
	for _, x := range c.files {
		if !did(f.Create(".stage", x.Name)) || !did(f.Write(".stage", x.Name, x.Data)) || !did(f.Sync(".stage", x.Name)) {
			clean()
			return slices.Compact(list)
		}
	}
	did(f.SyncNames())
	did(f.Rename(".stage", c.dst))
	did(f.SyncNames())
	return slices.Compact(list)
}

// P28.2, P28.4

// Each file has no more than a byte, and no stage more than one file when it is removed, so that there is just one way to go.
func TestStepsInOrder(t *testing.T) {
	full := []api.Dir{dir(".stage", file("j", "junk")), dir("d", file("a", "1"), file("old", "23")), dir("src", file("s", "4"))}
	for _, c := range []failed{
		{"in the place of another", 99, "d", full, []api.File{file("b", "1"), file("c", ""), file("a", "2")}},
		{"a new one", 99, "new", full[1:], []api.File{file("z", "1"), file("y", "2"), file("x", "")}},
		{"no files", 99, "d", full, nil},
		{"too many bytes", 4, "d", full, []api.File{file("b", "1"), file("c", "")}},
		{"a name twice", 99, "d", full, []api.File{file("b", "1"), file("b", "")}},
		{"a wrong name", 99, "d", full, []api.File{file("b", "1"), file("B", "")}},
	} {
		got, want := moments(t, c), replay(t, c)
		for i := range min(len(got), len(want)) {
			if got[i] != want[i] {
				t.Fatalf("%s: moment %d is %q, want %q", c.name, i, got[i], want[i])
			}
		}
		if len(got) != len(want) {
			t.Errorf("%s: %d moments, want %d", c.name, len(got), len(want))
		}
	}
}

// While a long file is written, what is there of it is its beginning.
func TestWritesInOrder(t *testing.T) {
	long := pattern(20000)
	c := failed{"a long file", 99999, "d", nil, []api.File{file("a", long), file("b", "1")}}
	for at := 0; ; at++ {
		f := opened(t, c.disk, c.quota, at)
		staging.Publish(f, c.dst, c.files)
		for _, d := range f.Durable(everything()) {
			if len(d.Files) > 0 && !strings.HasPrefix(long, string(d.Files[0].Data)) {
				t.Errorf("at %d: %d bytes that don't begin it", at, len(d.Files[0].Data))
			}
		}
		if !f.Down() {
			return
		}
	}
}

// Directly after the rename, only that is pending: the names decide between the old disk and the new one.
func TestPowerFailsAfterTheRename(t *testing.T) {
	for _, c := range cases()[:8] {
		f := opened(t, c.disk, c.quota, -1)
		if err := staging.Publish(f, c.dst, c.files); err != nil {
			t.Fatalf("%s: %v", c.name, err)
		}
		g := opened(t, c.disk, c.quota, f.Steps()-1)
		if err := staging.Publish(g, c.dst, c.files); fault.Code(err) != api.ErrPower {
			t.Errorf("%s: %v", c.name, err)
		}
		_, end := expected(c.disk, c.quota, c.dst, c.files)
		before := with(without(c.disk, ".stage"), ".stage", c.files)
		if s := told(g.Durable(api.Fate{})); s != told(before) {
			t.Errorf("%s: without the rename %s is left", c.name, s)
		}
		if s := told(g.Durable(api.Fate{Names: 1})); s != told(end) {
			t.Errorf("%s: with the rename %s is left", c.name, s)
		}
	}
}
