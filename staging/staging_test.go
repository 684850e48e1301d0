package staging_test

import (
	"math"
	"slices"
	"strconv"
	"strings"
	"testing"
	"testing/synctest"

	"satchel/api"
	"satchel/fault"
	"satchel/staging"
	"satchel/vfs"
)

// disks are small disks, with a stage and without one.
func disks() [][]api.Dir {
	return [][]api.Dir{
		nil,
		{dir(".stage", file("a", "junk"))},
		{dir(".stage"), dir("d", file("old", "1")), dir("e")},
		{dir("d", file("a", "9"), file("b", "8")), dir("dd", file("x", "77"))},
		{dir("-", file("s", "12")), dir(".stage", file("a", ""), file("x", "123456789")), dir(".stage2", file("a", "3"))},
	}
}

// lists gives all lists of up to n of the files.
func lists(menu []api.File, n int) [][]api.File {
	all := [][]api.File{nil}
	for first := 0; n > 0; n-- {
		longest := all[first:]
		first = len(all)
		for _, list := range longest {
			for _, x := range menu {
				all = append(all, append(slices.Clip(list), x))
			}
		}
	}
	return all
}

// P28.2 to P28.4
func TestPublish(t *testing.T) {
	menu := []api.File{file("a", ""), file("a", "1"), file("b", "22"), file(".stage", "333"), file("B", "1"), file("", "")}
	many := lists(menu, 3)
	names := []string{"d", "new", ".stage2", strings.Repeat("a", 30), ".stage", "", "D", "d/", strings.Repeat("a", 31)}
	for _, disk := range disks() {
		for quota := range 10 {
			for i, files := range many {
				dst := names[(i+quota)%len(names)]
				f := opened(t, disk, quota, -1)
				err := staging.Publish(f, dst, files)
				want, left := expected(disk, quota, dst, files)
				if !isFault(err, want) {
					t.Errorf("Publish %s as %q, quota %d: %v, want %v", outline(files), dst, quota, err, want)
				}
				wantSafe(t, dst+" on "+told(disk), f, left)
			}
		}
	}
}

// P28.2
func TestNameOfDestination(t *testing.T) {
	for c := range 256 {
		s := string([]byte{byte(c)})
		for _, dst := range []string{s, "a" + s, s + "stage", ".stage" + s, ".stag" + s, strings.Repeat("a", 29) + s} {
			f := opened(t, disks()[2], 100, -1)
			err := staging.Publish(f, dst, []api.File{file("a", "1")})
			want, left := expected(disks()[2], 100, dst, []api.File{file("a", "1")})
			if !isFault(err, want) {
				t.Errorf("%q: %v, want %v", dst, err, want)
			}
			wantSafe(t, dst, f, left)
			if want != nil && f.Steps() != 0 {
				t.Errorf("%q: %d changes", dst, f.Steps())
			}
		}
	}
}

// P28.2, P28.3
func TestNamesOfFiles(t *testing.T) {
	for c := range 256 {
		s := string([]byte{byte(c)})
		for _, name := range []string{s, "a" + s, s + ".csv", strings.Repeat("a", 29) + s, strings.Repeat("a", 30) + s} {
			files := []api.File{file("first", "1"), file(name, "22"), file("z", "3")}
			f := opened(t, disks()[2], 100, -1)
			err := staging.Publish(f, "d", files)
			want, left := expected(disks()[2], 100, "d", files)
			if !isFault(err, want) {
				t.Errorf("%q: %v, want %v", name, err, want)
			}
			wantSafe(t, name, f, left)
		}
	}
}

// P28.3

// A stage does not count for the quota, but what stands in the destination does.
func TestQuota(t *testing.T) {
	disk := []api.Dir{dir(".stage", file("a", "123456789")), dir("d", file("x", "12"), file("y", "345")), dir("e", file("z", "6"))}
	files := []api.File{file("n", ""), file("b", "22"), file("c", ""), file("a", "333")}
	for _, c := range []struct {
		dst   string
		quota int
		want  *fault.Fault
	}{
		{"d", 11, nil},
		{"new", 11, nil},
		{"d", math.MaxInt, nil},
		{"d", 10, &fault.Fault{Op: "write", Place: 3, Err: api.ErrQuota}},
		{"d", 8, &fault.Fault{Op: "write", Place: 3, Err: api.ErrQuota}},
		{"d", 7, &fault.Fault{Op: "write", Place: 1, Err: api.ErrQuota}},
		{"new", 0, &fault.Fault{Op: "write", Place: 1, Err: api.ErrQuota}},
		{"D", 0, &fault.Fault{Op: "paths", Place: 0, Err: api.ErrPath}},
	} {
		f := opened(t, disk, c.quota, -1)
		if err := staging.Publish(f, c.dst, files); !isFault(err, c.want) {
			t.Errorf("%s, quota %d: %v, want %v", c.dst, c.quota, err, c.want)
		}
	}
	// Files without bytes never are too much, even if there already are more bytes than the quota.
	f := opened(t, disk, 0, -1)
	if err := staging.Publish(f, "d", []api.File{file("n", ""), file("m", "")}); err != nil {
		t.Errorf("files without bytes: %v", err)
	}
	wantSafe(t, "files without bytes", f, []api.Dir{dir("d", file("m", ""), file("n", "")), disk[2]})
}

// Chapter 28's example.
func TestExample(t *testing.T) {
	files := []api.File{file("a", "12"), file("b", "34")}
	f := opened(t, nil, 3, -1)
	err := staging.Publish(f, "d", files)
	if !isFault(err, &fault.Fault{Op: "write", Place: 1, Err: api.ErrQuota}) || fault.Text(err) != "write 1: error 85" {
		t.Errorf("quota 3: %v", err)
	}
	wantSafe(t, "quota 3", f, nil)
	f = opened(t, nil, 4, -1)
	if err := staging.Publish(f, "d", files); err != nil {
		t.Errorf("quota 4: %v", err)
	}
	wantSafe(t, "quota 4", f, []api.Dir{dir("d", files...)})
}

// P28.2, P28.3

// Files of many writes, between others.
func TestLongFiles(t *testing.T) {
	for _, n := range []int{1, 255, 4095, 4096, 4097, 8191, 8192, 8193, 65537, 1 << 20, api.MaxFile} {
		disk := []api.Dir{dir(".stage", file("x", "123")), dir("d", file("x", "12"))}
		files := []api.File{file("b", "22"), file("a", pattern(n)), file("c", "333")}
		for _, quota := range []int{n + 7, n + 6, n + 4, n + 3, n / 2} {
			f := opened(t, disk, quota, -1)
			err := staging.Publish(f, "d", files)
			want, left := expected(disk, quota, "d", files)
			if !isFault(err, want) {
				t.Errorf("%d bytes, quota %d: %v, want %v", n, quota, err, want)
			}
			wantSafe(t, strconv.Itoa(n)+" bytes", f, left)
			if f.Used() != size(left) {
				t.Errorf("%d bytes, quota %d: Used %d, want %d", n, quota, f.Used(), size(left))
			}
		}
	}
}

func TestManyFiles(t *testing.T) {
	var files []api.File
	for i := range 1000 {
		files = append(files, file("f"+strconv.Itoa(1000+i), strconv.Itoa(i)))
	}
	backward := slices.Clone(files)
	slices.Reverse(backward)
	f := opened(t, nil, 10000, -1)
	if err := staging.Publish(f, "d", backward); err != nil {
		t.Errorf("%v", err)
	}
	wantSafe(t, "1000 files", f, []api.Dir{dir("d", files...)})
	err := staging.Publish(f, "d", append(backward, files[500]))
	if !isFault(err, &fault.Fault{Op: "create", Place: 1000, Err: api.ErrExist}) {
		t.Errorf("a name twice: %v", err)
	}
	wantSafe(t, "a name twice", f, []api.Dir{dir("d", files...)})
}

// Many calls on one file system, of which some fail.
func TestPublishAgain(t *testing.T) {
	disk := disks()[3]
	f := opened(t, disk, 9, -1)
	for i, files := range lists([]api.File{file("a", "1"), file("b", "22"), file("c", "")}, 3) {
		dst := []string{"d", "dd", "new"}[i%3]
		err := staging.Publish(f, dst, files)
		want, left := expected(disk, 9, dst, files)
		if !isFault(err, want) {
			t.Fatalf("Publish %s as %s on %s: %v, want %v", outline(files), dst, told(disk), err, want)
		}
		wantSafe(t, outline(files), f, left)
		disk = left
	}
}

// P28.1

func TestCleanup(t *testing.T) {
	for _, disk := range append(disks(), []api.Dir{dir(".stage", file("a", "1"), file("b", ""), file("c", "22"), file("d", "3")), dir(".stagf")}) {
		f := opened(t, disk, 0, -1)
		if err := staging.Cleanup(f); err != nil {
			t.Errorf("%s: %v", told(disk), err)
		}
		wantSafe(t, "Cleanup of "+told(disk), f, without(disk, ".stage"))
		steps := f.Steps()
		if err := staging.Cleanup(f); err != nil || f.Steps() != steps {
			t.Errorf("%s: %v, %d changes", told(disk), err, f.Steps()-steps)
		}
	}
}

// Without a stage nothing changes, so that names stay unsafe.
func TestCleanupOfNothing(t *testing.T) {
	f := opened(t, []api.Dir{dir("d")}, 9, -1)
	f.Mkdir("e")
	f.Create("d", "x")
	f.Write("d", "x", []byte("1"))
	if err := staging.Cleanup(f); err != nil || f.Steps() != 3 {
		t.Errorf("%v, %d changes", err, f.Steps())
	}
	for _, c := range []struct {
		fate api.Fate
		want []api.Dir
	}{
		{api.Fate{}, []api.Dir{dir("d")}},
		{api.Fate{Names: 1}, []api.Dir{dir("d"), dir("e")}},
		{api.Fate{Names: 2}, []api.Dir{dir("d", file("x", "")), dir("e")}},
		{everything(), []api.Dir{dir("d", file("x", "1")), dir("e")}},
	} {
		if s := told(f.Durable(c.fate)); s != told(c.want) {
			t.Errorf("%s is left, want %s", s, told(c.want))
		}
	}
}

// made is a stage of which nothing is safe, beside a name that isn't either.
func made(t *testing.T, at int) *vfs.FS {
	f := opened(t, []api.Dir{dir("d", file("old", "1"))}, 9, at)
	for _, e := range []api.Errno{f.Mkdir("e"), f.Mkdir(".stage"), f.Create(".stage", "b"), f.Write(".stage", "b", []byte("22")), f.Create(".stage", "a"), f.Write(".stage", "b", []byte("33"))} {
		if e != api.OK {
			t.Fatalf("%v", e)
		}
	}
	return f
}

func TestCleanupMakesNamesSafe(t *testing.T) {
	want := []api.Dir{dir("d", file("old", "1")), dir("e")}
	f := made(t, -1)
	if err := staging.Cleanup(f); err != nil {
		t.Errorf("%v", err)
	}
	wantSafe(t, "a stage that is not safe", f, want)
	// A directory that became the stage.
	f = opened(t, []api.Dir{dir("a", file("x", "1")), dir("b")}, 9, -1)
	f.Rename("a", ".stage")
	if err := staging.Cleanup(f); err != nil {
		t.Errorf("%v", err)
	}
	wantSafe(t, "a directory that was renamed", f, []api.Dir{dir("b")})
}

// P28.2, P28.4

// Names that aren't safe yet are when Publish has ended, well or not.
func TestPublishMakesNamesSafe(t *testing.T) {
	f := made(t, -1)
	if err := staging.Publish(f, "d", []api.File{file("n", "22")}); err != nil {
		t.Errorf("%v", err)
	}
	wantSafe(t, "a stage that is not safe", f, []api.Dir{dir("d", file("n", "22")), dir("e")})
	f = made(t, -1)
	if err := staging.Publish(f, "d", []api.File{file("n", "22"), file("m", "1234567")}); fault.Code(err) != api.ErrQuota {
		t.Errorf("%v", err)
	}
	wantSafe(t, "too many bytes", f, []api.Dir{dir("d", file("old", "1")), dir("e")})
	// No stage is seen, but a loss of power would bring it back.
	for _, quota := range []int{9, 2} {
		disk := []api.Dir{dir(".stage"), dir("d", file("old", "1"))}
		f = opened(t, disk, quota, -1)
		f.Rmdir(".stage")
		err := staging.Publish(f, "d", []api.File{file("n", "22")})
		want, left := expected(disk, quota, "d", []api.File{file("n", "22")})
		if !isFault(err, want) {
			t.Errorf("%v", err)
		}
		wantSafe(t, "a stage that might come back", f, left)
	}
}

// P1, P2, and the goroutines of layer 27: a bubble does not end while one is left in it.
func TestNoGoroutineIsLeft(t *testing.T) {
	for _, quota := range []int{40000, 3, 0} {
		for at := -1; at < 25; at++ {
			var texts []string
			for range 2 {
				synctest.Test(t, func(t *testing.T) {
					f := opened(t, disks()[2], quota, at)
					err := staging.Publish(f, "d", []api.File{file("a", pattern(30000)), file("b", pattern(100))})
					texts = append(texts, fault.Text(err)+told(f.View())+strconv.Itoa(f.Steps()))
				})
			}
			if texts[0] != texts[1] {
				t.Errorf("quota %d, at %d: %q", quota, at, texts)
			}
		}
	}
}
