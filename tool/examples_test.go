package tool_test

import (
	"slices"
	"strings"
	"testing"

	"satchel/api"
	"satchel/tool"
)

// start is the disk of the examples.
func start() []api.Dir { return []api.Dir{dir("s", file("script", "CREATE (n1);"))} }

func played(t *testing.T, disk []api.Dir, lines ...string) api.Outcome {
	t.Helper()
	o := tool.Play(api.Job{Disk: disk, Quota: 1 << 20, At: -1, Lines: lines})
	if o.Code != api.OK || len(o.Reports) != len(lines) || !sameDisk(o.Seen, o.After) {
		t.Fatalf("%v: %v", lines, o)
	}
	return o
}

func names(disk []api.Dir) string {
	var s []string
	for _, d := range disk {
		s = append(s, d.Name)
	}
	return strings.Join(s, " ")
}

func wantReport(t *testing.T, line string, got, want api.Report) {
	t.Helper()
	if !sameReport(got, want) {
		t.Errorf("%q: %v, want %v", line, got, want)
	}
}

// Chapter 29's first example.
func TestExampleOfLines(t *testing.T) {
	lines := []string{"import s d v1", "verify d", "dump d a", "import s s v1", "import s d v3", "dump s a", "frob"}
	o := played(t, start(), lines...)
	for i, want := range []api.Report{
		{Kind: 1, Nodes: 1}, {Kind: 1, Nodes: 1}, {Kind: 3, Nodes: 1},
		failing(api.ErrSame, "import", "paths"), failing(api.ErrArg, "import", "line"), failing(api.ErrKind, "dump", "kind"), failing(api.ErrWord, "line"),
	} {
		wantReport(t, lines[i], o.Reports[i], want)
	}
	if names(o.Seen) != "a d s" {
		t.Errorf("%s is seen", names(o.Seen))
	}
}

// Chapter 29's second example, and the document's sixth.
func TestExampleOfQuota(t *testing.T) {
	disk := with(start(), dir(".stage", file("a", "1")))
	o := tool.Play(api.Job{Disk: disk, Quota: 20, At: -1, Lines: []string{"import s d v1"}})
	wantReport(t, "import s d v1", o.Reports[0], failing(api.ErrQuota, "import", "publish", "write"))
	if !sameDisk(o.Seen, start()) || !sameDisk(o.After, start()) {
		t.Errorf("%s is seen, %s left", told(o.Seen), told(o.After))
	}
}

// The document's examples, from the first to the third.
func TestExampleOfVersions(t *testing.T) {
	o := played(t, start(), "import s d v1", "migrate d e", "migrate e f", "dump d a", "restore a r v2")
	for i, want := range []api.Report{{Kind: 1, Nodes: 1}, {Kind: 2, Nodes: 1}, failing(api.ErrVersion, "migrate", "kind"), {Kind: 3, Nodes: 1}, {Kind: 2, Nodes: 1}} {
		wantReport(t, "the lines", o.Reports[i], want)
	}
	d, _ := find(o.Seen, "d")
	e, _ := find(o.Seen, "e")
	r, _ := find(o.Seen, "r")
	if !sameFiles(d.Files, made("d", api.DirOne, single()).Files) || !sameFiles(e.Files, made("e", api.DirTwo, single()).Files) || !sameFiles(r.Files, e.Files) {
		t.Errorf("%s is seen", told(o.Seen))
	}
	if names(o.Seen) != "a d e r s" {
		t.Errorf("%s is seen", names(o.Seen))
	}
}

// The document's fourth example and its fifth.
func TestExampleOfWrongDirectories(t *testing.T) {
	o := played(t, []api.Dir{dir("a", file("x", "1"))}, "verify a")
	wantReport(t, "verify a", o.Reports[0], failing(api.ErrKind, "verify", "kind"))
	a := made("a", api.DirArchive, sample())
	for at := range a.Files[0].Data {
		for _, by := range []byte{1, 0x80, 0xff} {
			x := changed(a, "archive", at)
			x.Files[0].Data[at] ^= 0xff ^ by
			disk := []api.Dir{x, dir("d", file("x", "1"))}
			o := played(t, disk, "restore a d v2", "restore a new v1")
			for i, line := range []string{"restore a d v2", "restore a new v1"} {
				r := o.Reports[i]
				layer := []api.Errno{api.ErrSum, api.ErrLong, api.ErrShort, api.ErrMagic, api.ErrFrame, api.ErrVersion, api.ErrRecord, api.ErrTrailer, api.ErrTail}
				if !slices.Contains(layer, r.Code) || !sameReport(r, failing(r.Code, "restore", "load")) {
					t.Errorf("byte %d, %q: %v", at, line, r)
				}
			}
			if !sameDisk(o.Seen, disk) {
				t.Errorf("byte %d: %s is seen", at, told(o.Seen))
			}
		}
	}
}

// The document's seventh example and its eighth.
func TestExampleOfPower(t *testing.T) {
	old := start()
	o := tool.Play(api.Job{Disk: old, Quota: 1 << 20, At: 3, Fate: everything(), Lines: []string{"import s d v1"}})
	if len(o.Reports) != 1 || o.Reports[0].Code != api.ErrPower || len(o.Seen) != 0 || names(o.After) != ".stage s" {
		t.Errorf("%v, seen %s, left %s", o.Reports, told(o.Seen), told(o.After))
	}
	wantRestart(t, "at 3", o.After, [][]api.Dir{old})
	// mkdir, then create, write and sync for each of eight files, none of which takes two writes, names and rename.
	job := api.Job{Disk: old, Quota: 1 << 20, At: 1 + 3*8 + 2, Lines: []string{"import s d v1"}}
	_, end := expected(old, job.Quota, job.Lines[0])
	for n, want := range [][]api.Dir{old, end} {
		job.Fate.Names = n
		o := tool.Play(job)
		if o.Reports[0].Code != api.ErrPower {
			t.Errorf("%v", o.Reports)
		}
		wantRestart(t, "after the rename", o.After, [][]api.Dir{want})
	}
}

// The document's ninth example.
func TestExampleOfDenseNodes(t *testing.T) {
	for degree, groups := range map[int]int{49: 0, 50: 2} {
		g := star(degree)
		o := played(t, []api.Dir{made("s", api.DirOne, g)}, "migrate s d")
		wantReport(t, "migrate s d", o.Reports[0], api.Report{Kind: api.DirTwo, Nodes: degree + 1, Rels: degree})
		d, _ := find(o.Seen, "d")
		// A group takes 23 bytes, behind the 16 of the file's header.
		i := slices.IndexFunc(d.Files, func(x api.File) bool { return x.Name == "groups" })
		if n := len(d.Files[i].Data); n != 16+23*groups {
			t.Errorf("%d relationships: the groups have %d bytes", degree, n)
		}
		if !sameFiles(d.Files, made("d", api.DirTwo, g).Files) {
			t.Errorf("%d relationships: %s is seen", degree, told(o.Seen))
		}
	}
}

// The document's tenth example.
func TestExampleOfExport(t *testing.T) {
	g := api.Graph{Nodes: []api.Node{{Id: 0, Labels: []string{"A"}, Props: []api.Prop{prop("k", number(1))}}}}
	o := played(t, []api.Dir{made("d", api.DirOne, g)}, "export d c csv")
	wantReport(t, "export d c csv", o.Reports[0], api.Report{Kind: api.DirTable, Nodes: 1})
	c, _ := find(o.Seen, "c")
	want := []api.File{file("nodes.csv", ":ID,:LABEL,k\r\n0,A,i:1\r\n"), file("rels.csv", ":ID,:START,:END,:TYPE\r\n")}
	if !sameFiles(c.Files, want) {
		t.Errorf("%s", told([]api.Dir{c}))
	}
}
