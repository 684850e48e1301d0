package staging_test

import (
	"reflect"
	"slices"
	"strconv"
	"strings"
	"testing"

	"satchel/api"
	"satchel/fault"
	"satchel/vfs"
)

func dir(name string, files ...api.File) api.Dir { return api.Dir{Name: name, Files: files} }

func file(name, data string) api.File { return api.File{Name: name, Data: []byte(data)} }

func opened(t *testing.T, disk []api.Dir, quota, at int) *vfs.FS {
	t.Helper()
	f, e := vfs.Open(disk, quota, at)
	if f == nil || e != api.OK {
		t.Fatalf("Open: %v, %v", f, e)
	}
	return f
}

// told is a disk as a text.
func told(disk []api.Dir) string {
	var s strings.Builder
	for _, d := range disk {
		s.WriteString(strconv.Quote(d.Name) + "{" + outline(d.Files) + "}")
	}
	return s.String()
}

// outline is a list of files as a text, in which a long pattern is told by its length.
func outline(files []api.File) string {
	var s strings.Builder
	for _, x := range files {
		s.WriteString(strconv.Quote(x.Name) + "=")
		if text := string(x.Data); len(text) > 50 && text == pattern(len(text)) {
			s.WriteString("pattern of " + strconv.Itoa(len(text)))
		} else {
			s.WriteString(strconv.Quote(text))
		}
		s.WriteString(";")
	}
	return s.String()
}

// pattern is a text of n bytes, in which no piece looks like the one behind it.
func pattern(n int) string {
	b := make([]byte, n)
	for i := range b {
		b[i] = byte(i%251 + i/251)
	}
	return string(b)
}

func good(name string) bool {
	return name != "" && len(name) <= 30 && strings.Trim(name, "abcdefghijklmnopqrstuvwxyz0123456789._-") == ""
}

func without(disk []api.Dir, name string) []api.Dir {
	return slices.DeleteFunc(slices.Clone(disk), func(d api.Dir) bool { return d.Name == name })
}

// with is a disk on which a directory has these files and no others.
func with(disk []api.Dir, name string, files []api.File) []api.Dir {
	sorted := slices.Clone(files)
	slices.SortFunc(sorted, func(a, b api.File) int { return strings.Compare(a.Name, b.Name) })
	disk = append(without(disk, name), dir(name, sorted...))
	slices.SortFunc(disk, func(a, b api.Dir) int { return strings.Compare(a.Name, b.Name) })
	return disk
}

func size(disk []api.Dir) int {
	sum := 0
	for _, d := range disk {
		for _, x := range d.Files {
			sum += len(x.Data)
		}
	}
	return sum
}

// expected is the Fault that Publish returns while the power is on, or nil, and the disk behind it.
func expected(disk []api.Dir, quota int, dst string, files []api.File) (*fault.Fault, []api.Dir) {
	if !good(dst) || dst == ".stage" {
		return &fault.Fault{Op: "paths", Place: 0, Err: api.ErrPath}, disk
	}
	clean := without(disk, ".stage")
	total := size(clean)
	for i, x := range files {
		total += len(x.Data)
		switch {
		case !good(x.Name):
			return &fault.Fault{Op: "create", Place: i, Err: api.ErrPath}, clean
		case slices.ContainsFunc(files[:i], func(y api.File) bool { return x.Name == y.Name }):
			return &fault.Fault{Op: "create", Place: i, Err: api.ErrExist}, clean
		case len(x.Data) > 0 && total > quota:
			return &fault.Fault{Op: "write", Place: i, Err: api.ErrQuota}, clean
		}
	}
	return nil, with(clean, dst, files)
}

// isFault tells whether err is a Fault like want, or nil if want is.
func isFault(err error, want *fault.Fault) bool {
	if want == nil {
		return err == nil
	}
	return reflect.DeepEqual(err, error(want))
}

// everything is a fate that takes nothing away.
func everything() api.Fate { return api.Fate{Names: 1 << 20, Keep: slices.Repeat([]bool{true}, 1<<10)} }

// fates are all those of up to so many pending name changes and writes.
func fates(names, writes int) []api.Fate {
	list := []api.Fate{{Names: -1}, everything()}
	for n := range names + 1 {
		for set := range 1 << writes {
			keep := make([]bool, writes)
			for i := range keep {
				keep[i] = set>>i&1 == 1
			}
			list = append(list, api.Fate{Names: n, Keep: keep})
		}
	}
	return list
}

// wantSafe finds out whether a disk is seen, of which no loss of power takes anything.
func wantSafe(t *testing.T, what string, f *vfs.FS, want []api.Dir) {
	t.Helper()
	if s := told(f.View()); s != told(want) {
		t.Errorf("%s: %s is seen, want %s", what, s, told(want))
	}
	wantLeft(t, what, f, want)
}

func wantLeft(t *testing.T, what string, f *vfs.FS, want []api.Dir) {
	t.Helper()
	for _, fate := range []api.Fate{{}, {Names: 1}, {Names: 2, Keep: []bool{true}}, {Names: 3, Keep: []bool{false, true}}, everything()} {
		if s := told(f.Durable(fate)); s != told(want) {
			t.Errorf("%s: a loss of power leaves %s, want %s", what, s, told(want))
		}
	}
}
