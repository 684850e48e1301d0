package tool_test

import (
	"bytes"
	"slices"
	"strconv"
	"strings"
	"testing"

	"satchel/api"
	"satchel/kinds"
	"satchel/vfs"
)

func dir(name string, files ...api.File) api.Dir { return api.Dir{Name: name, Files: files} }

func file(name, data string) api.File { return api.File{Name: name, Data: []byte(data)} }

func opened(t *testing.T, disk []api.Dir, quota, at int) *vfs.FS {
	t.Helper()
	f, e := vfs.Open(disk, quota, at)
	if f == nil || e != api.OK {
		t.Fatalf("Open: %v, %v", f, e)
	}
	return f
}

// made is a directory with the files of a kind for a graph.
func made(name string, kind int, g api.Graph) api.Dir {
	files, e := kinds.Make(kind, g)
	if e != api.OK {
		panic(e)
	}
	return dir(name, files...)
}

// told is a disk as a text, in which long files are told by their lengths and ends.
func told(disk []api.Dir) string {
	var s strings.Builder
	for _, d := range disk {
		s.WriteString(d.Name + "{")
		for _, x := range d.Files {
			data := string(x.Data)
			if len(data) > 40 {
				data = data[:20] + ".." + data[len(data)-8:]
			}
			s.WriteString(x.Name + "=" + strconv.Itoa(len(x.Data)) + strconv.Quote(data) + ";")
		}
		s.WriteString("}")
	}
	return s.String()
}

func sameFiles(a, b []api.File) bool {
	return slices.EqualFunc(a, b, func(x, y api.File) bool { return x.Name == y.Name && bytes.Equal(x.Data, y.Data) })
}

func sameDisk(a, b []api.Dir) bool {
	return slices.EqualFunc(a, b, func(x, y api.Dir) bool { return x.Name == y.Name && sameFiles(x.Files, y.Files) })
}

func find(disk []api.Dir, name string) (api.Dir, bool) {
	i := slices.IndexFunc(disk, func(d api.Dir) bool { return d.Name == name })
	if i < 0 {
		return api.Dir{}, false
	}
	return disk[i], true
}

func without(disk []api.Dir, name string) []api.Dir {
	return slices.DeleteFunc(slices.Clone(disk), func(d api.Dir) bool { return d.Name == name })
}

// with is a disk on which these directories stand in the place of those of the same names.
func with(disk []api.Dir, dirs ...api.Dir) []api.Dir {
	for _, d := range dirs {
		disk = append(without(disk, d.Name), d)
	}
	slices.SortFunc(disk, func(a, b api.Dir) int { return strings.Compare(a.Name, b.Name) })
	return disk
}

func size(files []api.File) int {
	sum := 0
	for _, x := range files {
		sum += len(x.Data)
	}
	return sum
}

func sizeOfAll(disk []api.Dir) int {
	sum := 0
	for _, d := range disk {
		sum += size(d.Files)
	}
	return sum
}

// The model, after the chapter. What the layers below are for it asks them themselves.

// form is a line of the chapter's table, in which a choice of the last word makes two.
type form struct {
	words            string
	accepts, creates string
}

var forms = []form{
	{"dump SRC DST", "v1 v2", "archive"},
	{"restore SRC DST v1", "archive", "v1"},
	{"restore SRC DST v2", "archive", "v2"},
	{"export SRC DST csv", "v1 v2", "csv"},
	{"export SRC DST cypher", "v1 v2", "cypher"},
	{"import SRC DST v1", "csv cypher", "v1"},
	{"import SRC DST v2", "csv cypher", "v2"},
	{"migrate SRC DST", "v1", "v2"},
	{"verify SRC", "v1 v2 archive csv cypher", ""},
}

// kindNames are the kinds' names, by their numbers; DirNone has none, not even an empty one.
var kindNames = []string{"none", "v1", "v2", "archive", "csv", "cypher"}

// match gives what a line's words stand for in a form, or nothing if the line is not of that form.
func (f form) match(line string) (map[string]string, bool) {
	want, got := strings.Split(f.words, " "), strings.Split(line, " ")
	meant := map[string]string{}
	if len(want) != len(got) {
		return nil, false
	}
	for i, w := range want {
		if w == "SRC" || w == "DST" {
			meant[w] = got[i]
		} else if w != got[i] {
			return nil, false
		}
	}
	return meant, true
}

func goodDir(name string) bool {
	return name != "" && len(name) <= 30 && strings.Trim(name, "abcdefghijklmnopqrstuvwxyz0123456789._-") == "" && name != ".stage"
}

func failing(e api.Errno, trail ...string) api.Report { return api.Report{Code: e, Trail: trail} }

// expected is the report on a line while the power is on, and the disk behind it.
func expected(disk []api.Dir, quota int, line string) (api.Report, []api.Dir) {
	first := strings.Split(line, " ")[0]
	known := false
	for _, f := range forms {
		if !strings.HasPrefix(f.words, first+" ") || first == "" {
			continue
		}
		known = true
		if meant, ok := f.match(line); ok {
			return f.expected(disk, quota, first, meant)
		}
	}
	if !known {
		return failing(api.ErrWord, "line"), disk
	}
	return failing(api.ErrArg, first, "line"), disk
}

func (f form) expected(disk []api.Dir, quota int, first string, meant map[string]string) (api.Report, []api.Dir) {
	src := meant["SRC"]
	dst, creates := meant["DST"]
	if !goodDir(src) || creates && !goodDir(dst) {
		return failing(api.ErrPath, first, "paths"), disk
	}
	if creates && src == dst {
		return failing(api.ErrSame, first, "paths"), disk
	}
	d, found := find(disk, src)
	if !found {
		return failing(api.ErrNone, first, "read"), disk
	}
	kind := kinds.Sniff(d.Files)
	if first == "migrate" && kindNames[kind] == "v2" {
		return failing(api.ErrVersion, first, "kind"), disk
	}
	if !slices.Contains(strings.Split(f.accepts, " "), kindNames[kind]) {
		return failing(api.ErrKind, first, "kind"), disk
	}
	g, _, e := kinds.Load(d.Files)
	if e != api.OK {
		return failing(e, first, "load"), disk
	}
	if !creates {
		return api.Report{Kind: kind, Nodes: len(g.Nodes), Rels: len(g.Rels)}, disk
	}
	target := slices.Index(kindNames, f.creates)
	files, e := kinds.Make(target, g)
	if e != api.OK {
		panic(e)
	}
	disk = without(disk, ".stage")
	total := sizeOfAll(disk)
	for _, x := range files {
		total += len(x.Data)
		if len(x.Data) > 0 && total > quota {
			return failing(api.ErrQuota, first, "publish", "write"), disk
		}
	}
	return api.Report{Kind: target, Nodes: len(g.Nodes), Rels: len(g.Rels)}, with(disk, dir(dst, files...))
}

func sameReport(a, b api.Report) bool {
	return a.Code == b.Code && slices.Equal(a.Trail, b.Trail) && a.Kind == b.Kind && a.Nodes == b.Nodes && a.Rels == b.Rels
}

// everything is a fate that takes nothing away.
func everything() api.Fate { return api.Fate{Names: 1 << 20, Keep: slices.Repeat([]bool{true}, 1<<10)} }

// fates are those that keep up to so many name changes, with some of the writes.
func fates(names int) []api.Fate {
	list := []api.Fate{{Names: -1}, everything()}
	for n := range names + 1 {
		for _, keep := range [][]bool{nil, {true}, {false, true}, {true, true, true, true}} {
			list = append(list, api.Fate{Names: n, Keep: keep})
		}
	}
	return list
}

// wantSafe finds out whether a disk is seen, of which no loss of power takes anything.
func wantSafe(t *testing.T, what string, f *vfs.FS, want []api.Dir) {
	t.Helper()
	if disk := f.View(); !sameDisk(disk, want) {
		t.Errorf("%s: %s is seen, want %s", what, told(disk), told(want))
	}
	for _, fate := range []api.Fate{{}, {Names: 1}, {Names: 2, Keep: []bool{true}}, everything()} {
		if disk := f.Durable(fate); !sameDisk(disk, want) {
			t.Errorf("%s: a loss of power leaves %s, want %s", what, told(disk), told(want))
		}
	}
}
