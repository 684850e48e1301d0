package tool_test

import (
	"math/rand"
	"slices"
	"strconv"
	"strings"
	"testing"

	"satchel/api"
	"satchel/graph"
	"satchel/kinds"
	"satchel/tool"
	"satchel/vfs"
)

// changed is a directory in which a byte of a file's is another one.
func changed(d api.Dir, name string, at int) api.Dir {
	d.Files = slices.Clone(d.Files)
	for i, x := range d.Files {
		if x.Name == name {
			d.Files[i].Data = slices.Clone(x.Data)
			d.Files[i].Data[at] ^= 0xff
		}
	}
	return d
}

// fullDisk has a directory of each kind, of no kind, and such as are broken.
func fullDisk() []api.Dir {
	one, two, ar := made("one", api.DirOne, sample()), made("two", api.DirTwo, sample()), made("ar", api.DirArchive, sample())
	named := func(d api.Dir, name string) api.Dir {
		d.Name = name
		return d
	}
	return with(nil,
		one, two, ar, made("csv", api.DirTable, sample()), made("text", api.DirScript, sample()),
		named(changed(one, "nodes", 20), "one.bad"), named(changed(two, "meta", 5), "two.bad"), named(changed(ar, "archive", 14), "ar.bad"),
		dir("csv.bad", file("nodes.csv", ""), file("rels.csv", "")), dir("text.bad", file("script", "CREATE (n1)")),
		dir("none", file("x", "junk")), dir("empty"), dir("old", file("x", "1")), dir(".stage", file("a", "junk")))
}

// wantRun executes a line, and compares its report and the disk with the model.
func wantRun(t *testing.T, disk []api.Dir, quota int, line string) {
	t.Helper()
	f := opened(t, disk, quota, -1)
	r := tool.Run(f, line)
	want, left := expected(disk, quota, line)
	if !sameReport(r, want) {
		t.Errorf("%q, quota %d: %v, want %v", line, quota, r, want)
	}
	wantSafe(t, line, f, left)
	// Only what comes to the seventh step makes changes.
	reached := want.Code == api.OK && !strings.HasPrefix(line, "verify") || len(want.Trail) > 2
	if !reached && f.Steps() != 0 {
		t.Errorf("%q: %d changes", line, f.Steps())
	}
}

var (
	firstWords = []string{"dump", "restore", "export", "import", "migrate", "verify", "", "frob", "Dump", "dum", "dumps", "line", "v1"}
	dirWords   = []string{"one", "two", "ar", "csv", "text", "one.bad", "two.bad", "ar.bad", "csv.bad", "text.bad", "none", "empty", "old", "new", ".stage", "", "UP", "v1", strings.Repeat("n", 30), strings.Repeat("n", 31)}
	lastWords  = []string{"v1", "v2", "archive", "csv", "cypher", "", "V1", "v3", "none", "old"}
)

// P29.1, P29.2
func TestLines(t *testing.T) {
	disk := fullDisk()
	for _, first := range firstWords {
		wantRun(t, disk, 1<<20, first)
		for _, src := range dirWords {
			wantRun(t, disk, 1<<20, first+" "+src)
			for _, dst := range dirWords {
				wantRun(t, disk, 1<<20, first+" "+src+" "+dst)
			}
		}
	}
}

// P29.1, P29.2
func TestLastWords(t *testing.T) {
	disk := fullDisk()
	for _, first := range firstWords[:9] {
		for _, src := range dirWords {
			for _, dst := range []string{"one", "ar", "old", "new", ".stage", "", "UP"} {
				for _, last := range lastWords {
					wantRun(t, disk, 1<<20, first+" "+src+" "+dst+" "+last)
				}
			}
		}
	}
}

// P29.1

// All lines of up to four words, empty ones among them, and some with more.
func TestNumbersOfWords(t *testing.T) {
	disk := with(nil, made("one", api.DirOne, single()), made("csv", api.DirTable, single()))
	menu := []string{"", "verify", "migrate", "import", "one", "csv", "v1"}
	lines := menu
	for n := 1; n <= 4; n++ {
		var longer []string
		for _, line := range lines {
			wantRun(t, disk, 1<<20, line)
			for _, w := range menu {
				longer = append(longer, line+" "+w)
			}
		}
		lines = longer
	}
	for _, line := range lines {
		for _, rest := range []string{"", " ", " v1"} {
			want, _ := expected(disk, 1<<20, line+rest)
			if r := tool.Run(opened(t, disk, 1<<20, -1), line+rest); !sameReport(r, want) {
				t.Errorf("%q: %v, want %v", line+rest, r, want)
			}
		}
	}
}

// P29.1
func TestLongLines(t *testing.T) {
	f := opened(t, []api.Dir{made("one", api.DirOne, single())}, 1<<20, -1)
	for _, line := range []string{strings.Repeat(" ", 1<<22), "verify one" + strings.Repeat(" ", 1<<22), "import" + strings.Repeat(" x", 1<<22), strings.Repeat("v", 1<<22), "verify " + strings.Repeat("v", 1<<22)} {
		want, _ := expected(f.View(), 1<<20, line)
		if r := tool.Run(f, line); !sameReport(r, want) {
			t.Errorf("%q and %d more bytes: %v, want %v", line[:10], len(line)-10, r, want)
		}
	}
}

// P29.1, P29.2

// Each byte in each word.
func TestBytesOfWords(t *testing.T) {
	disk := with(nil, made("a", api.DirOne, single()), made("csv", api.DirTable, single()), dir(".stage"))
	for c := range 256 {
		s := string([]byte{byte(c)})
		for _, line := range []string{
			s, s + "verify a", "verify" + s + "a", "verif" + s + " a", "verify" + s + " a", "verify a" + s, "verify " + s, "verify " + s + "a", "verify .stage" + s, "verify .stag" + s,
			"dump a " + s, "dump " + s + " b", "dump a b" + s, "dump a" + s + "b", "dump a .stage" + s, "dump a " + strings.Repeat("b", 29) + s, "dump a " + strings.Repeat("b", 30) + s,
			"export a b cs" + s, "export a b csv" + s, "export a b " + s, "import csv b" + s + "v1", "import csv b v" + s, "import csv " + s + " v1", "import csv .stag" + s + " v2",
		} {
			wantRun(t, disk, 1<<20, line)
		}
	}
}

// P29.1

// The trails that the chapter tells, by the word.
func TestTrails(t *testing.T) {
	for _, c := range []struct {
		line  string
		code  api.Errno
		trail string
	}{
		{"frob", api.ErrWord, "line"},
		{"", api.ErrWord, "line"},
		{" dump one d", api.ErrWord, "line"},
		{"dump", api.ErrArg, "dump line"},
		{"dump one d ", api.ErrArg, "dump line"},
		{"dump one  d", api.ErrArg, "dump line"},
		{"dump one d archive", api.ErrArg, "dump line"},
		{"export one d", api.ErrArg, "export line"},
		{"export one d v1", api.ErrArg, "export line"},
		{"import .stage .stage csv", api.ErrArg, "import line"},
		{"verify .stage", api.ErrPath, "verify paths"},
		{"verify ", api.ErrPath, "verify paths"},
		{"dump missing .stage", api.ErrPath, "dump paths"},
		{"dump UP UP", api.ErrPath, "dump paths"},
		{"dump missing missing", api.ErrSame, "dump paths"},
		{"migrate two two", api.ErrSame, "migrate paths"},
		{"dump missing d", api.ErrNone, "dump read"},
		{"verify missing", api.ErrNone, "verify read"},
		{"migrate two d", api.ErrVersion, "migrate kind"},
		{"migrate ar d", api.ErrKind, "migrate kind"},
		{"migrate empty d", api.ErrKind, "migrate kind"},
		{"dump ar d", api.ErrKind, "dump kind"},
		{"dump csv.bad d", api.ErrKind, "dump kind"},
		{"restore one d v1", api.ErrKind, "restore kind"},
		{"export text d cypher", api.ErrKind, "export kind"},
		{"import two d v2", api.ErrKind, "import kind"},
		{"verify none", api.ErrKind, "verify kind"},
		{"verify empty", api.ErrKind, "verify kind"},
		{"migrate one.bad d", api.ErrFree, "migrate load"},
		{"migrate two.bad d", api.ErrFiles, "migrate load"},
		{"verify two.bad", api.ErrFiles, "verify load"},
		{"restore ar.bad d v2", api.ErrSum, "restore load"},
		{"import csv.bad d v1", api.ErrHeader, "import load"},
		{"import text.bad d v2", api.ErrSyntax, "import load"},
		{"verify text.bad", api.ErrSyntax, "verify load"},
		{"dump one d", api.ErrQuota, "dump publish write"},
		{"restore ar old v1", api.ErrQuota, "restore publish write"},
		{"migrate one two", api.ErrQuota, "migrate publish write"},
	} {
		f := opened(t, fullDisk(), 0, -1)
		if r := tool.Run(f, c.line); !sameReport(r, failing(c.code, strings.Split(c.trail, " ")...)) {
			t.Errorf("%q: %v, want %v, %s", c.line, r, c.code, c.trail)
		}
	}
}

// P29.1

// What is wrong with a line is told without power, up to its paths.
func TestLinesWithoutPower(t *testing.T) {
	disk := fullDisk()
	f := opened(t, disk, 1<<20, 0)
	for _, first := range firstWords {
		for _, src := range dirWords {
			for _, rest := range []string{"", " new", " " + src, " .stage", " new v1", " new cypher", " UP csv"} {
				line := first + " " + src + rest
				want, _ := expected(disk, 1<<20, line)
				if len(want.Trail) == 0 || want.Trail[0] != "line" && want.Trail[1] != "line" && want.Trail[1] != "paths" {
					want = failing(api.ErrPower, first, "read")
				}
				if r := tool.Run(f, line); !sameReport(r, want) {
					t.Errorf("%q: %v, want %v", line, r, want)
				}
			}
		}
	}
	if left := f.Durable(everything()); !sameDisk(left, disk) || f.Steps() != 0 {
		t.Errorf("%s is left", told(left))
	}
}

// P29.1

// Each byte of a directory of each kind, changed, for a line of each command.
func TestChangedBytes(t *testing.T) {
	for kind := api.DirOne; kind <= api.DirScript; kind++ {
		whole := made("s", kind, single())
		for _, x := range whole.Files {
			for at := range x.Data {
				for _, line := range []string{"verify s", "restore s d v1", "migrate s d", "dump s d", "export s d csv", "import s d v2"} {
					wantRun(t, with(nil, changed(whole, x.Name, at), dir("d", file("x", "1"))), 1<<20, line)
				}
			}
		}
	}
}

// P29.1, P29.2

// Lines that go on from each other, also over a directory that is there: through all kinds the graph stays the same.
func TestGraphsGoAround(t *testing.T) {
	rng := rand.New(rand.NewSource(1))
	lines := []string{
		"verify s", "import s one v1", "import s two v2", "migrate one twice", "dump one d1", "dump two d2", "restore d1 two v2", "restore d2 one v1",
		"export one c csv", "export two t cypher", "import c one v1", "import t two v2", "import t s v1", "export one s csv", "verify d2", "verify c", "verify t", "verify two",
	}
	for i := range 60 {
		g := randomGraph(rng)
		if i == 0 {
			g = api.Graph{}
		}
		disk := []api.Dir{made("s", []int{api.DirTable, api.DirScript}[i%2], g)}
		f := opened(t, disk, 1<<24, -1)
		for _, line := range lines {
			want, left := expected(disk, 1<<24, line)
			if r := tool.Run(f, line); r.Code != api.OK || !sameReport(r, want) || r.Nodes != len(g.Nodes) || r.Rels != len(g.Rels) {
				t.Fatalf("%q: %v, want %v", line, r, want)
			}
			wantSafe(t, line, f, left)
			disk = left
		}
		for _, d := range disk {
			if h, _, e := kinds.Load(d.Files); e != api.OK || !graph.Same(g, h) {
				t.Errorf("%s: %v, %v, want %v", d.Name, h, e, g)
			}
		}
		twice, _ := find(disk, "twice")
		if two, _ := find(disk, "two"); !sameFiles(twice.Files, two.Files) {
			t.Errorf("%s, but imported %s", told([]api.Dir{twice}), told([]api.Dir{two}))
		}
	}
}

// P29.1, P29.2

// A directory with a file too many or too few is of another kind, or of none.
func TestFilesOfDirectories(t *testing.T) {
	for kind := api.DirOne; kind <= api.DirScript; kind++ {
		d := made("s", kind, sample())
		for i := range d.Files {
			fewer := dir("s", slices.Delete(slices.Clone(d.Files), i, i+1)...)
			more := dir("s", slices.Insert(slices.Clone(d.Files), i, file("a", ""))...)
			slices.SortFunc(more.Files, func(a, b api.File) int { return strings.Compare(a.Name, b.Name) })
			for _, f := range forms {
				line := strings.NewReplacer("SRC", "s", "DST", "d").Replace(f.words)
				wantRun(t, with(nil, fewer, dir("d")), 1<<20, line)
				wantRun(t, with(nil, more, dir("e")), 1<<20, line)
			}
		}
	}
}

// P29.2

// What was not safe before a line, in a directory that is not its own.
func TestWhatWasNotSafe(t *testing.T) {
	for _, c := range []struct {
		line  string
		names bool
	}{{"frob", false}, {"dump one d e", false}, {"dump one one", false}, {"dump other d", false}, {"migrate two d", false}, {"verify one", false}, {"dump one d", true}, {"import csv d v2", true}} {
		f := opened(t, fullDisk(), 1<<20, -1)
		for _, e := range []api.Errno{f.Mkdir("late"), f.Create("old", "y"), f.Write("old", "y", []byte("234"))} {
			if e != api.OK {
				t.Fatal(e)
			}
		}
		steps, seen, safe := f.Steps(), f.View(), f.Durable(api.Fate{})
		r := tool.Run(f, c.line)
		if !c.names {
			if f.Steps() != steps || !sameDisk(f.View(), seen) || !sameDisk(f.Durable(api.Fate{}), safe) {
				t.Errorf("%q: it has changed %s to %s", c.line, told(seen), told(f.View()))
			}
			continue
		}
		d, found := find(f.View(), "d")
		if r.Code != api.OK || !found {
			t.Fatalf("%q: %v", c.line, r)
		}
		if want := with(without(seen, ".stage"), d); !sameDisk(f.View(), want) {
			t.Errorf("%q: %s is seen, want %s", c.line, told(f.View()), told(want))
		}
		// The names are safe with those of the line; the bytes that nobody synced aren't.
		want := with(without(seen, ".stage"), d, dir("old", file("x", "1"), file("y", "")))
		if left := f.Durable(api.Fate{}); !sameDisk(left, want) {
			t.Errorf("%q: %s is left, want %s", c.line, told(left), told(want))
		}
	}
}

// P29.6, P29.1, P29.2
func TestQuota(t *testing.T) {
	rng := rand.New(rand.NewSource(2))
	for i := range 40 {
		g := randomGraph(rng)
		if i == 0 {
			g = api.Graph{}
		}
		var disk []api.Dir
		for kind := api.DirOne; kind <= api.DirScript; kind++ {
			disk = with(disk, made(kindNames[kind], kind, g))
		}
		disk = with(disk, dir(".stage", file("a", strings.Repeat("j", 5000))), dir("d", file("old", strings.Repeat("j", i*10))))
		used := sizeOfAll(without(disk, ".stage"))
		for _, f := range forms[:8] {
			target := slices.Index(kindNames, f.creates)
			need := size(made("d", target, g).Files)
			for _, src := range strings.Split(f.accepts, " ") {
				line := strings.NewReplacer("SRC", src, "DST", "d").Replace(f.words)
				for _, quota := range []int{used + kinds.Bound(target, g), used + need} {
					if r := tool.Run(opened(t, disk, quota, -1), line); r.Code != api.OK {
						t.Errorf("%q, quota %d: %v", line, quota, r)
					}
				}
				for _, quota := range []int{used + need, used + need - 1, used + need/2, used, used / 2, 0} {
					wantRun(t, disk, quota, line)
				}
			}
		}
	}
}

// P29.1

// Many lines on one file system, of which some fail.
func TestRunAgain(t *testing.T) {
	disk := fullDisk()
	quota := sizeOfAll(disk) + 3000
	f := opened(t, disk, quota, -1)
	rng := rand.New(rand.NewSource(3))
	codes := map[api.Errno]int{}
	for i := range 2000 {
		words := []string{firstWords[rng.Intn(6)], dirWords[rng.Intn(14)], dirWords[rng.Intn(14)], lastWords[rng.Intn(5)]}
		line := strings.Join(words[:min(2+rng.Intn(4), 4)], " ")
		want, left := expected(disk, quota, line)
		if r := tool.Run(f, line); !sameReport(r, want) {
			t.Fatalf("line %d, %q: %v, want %v", i, line, r, want)
		}
		wantSafe(t, strconv.Itoa(i)+" "+line, f, left)
		disk = left
		codes[want.Code]++
	}
	for _, e := range []api.Errno{api.OK, api.ErrArg, api.ErrSame, api.ErrNone, api.ErrKind, api.ErrQuota} {
		if codes[e] < 5 {
			t.Errorf("%d times %v", codes[e], e)
		}
	}
}

// P29.1

// A graph with many relationships and long texts, in files of many writes.
func TestLargeGraphs(t *testing.T) {
	var g api.Graph
	for id := range api.MaxNodes {
		g.Nodes = append(g.Nodes, api.Node{Id: id, Labels: []string{"L" + strconv.Itoa(id%200)}, Props: []api.Prop{prop("k", text(strings.Repeat("x", 200)))}})
	}
	for id := range api.MaxRels {
		g.Rels = append(g.Rels, api.Rel{Id: id, Type: "T" + strconv.Itoa(id%200), From: id % 3, To: id % 1024})
	}
	f := opened(t, []api.Dir{made("s", api.DirTable, g)}, 1<<24, -1)
	for _, line := range []string{"import s one v1", "migrate one two", "dump two a", "restore a s v1", "export s t cypher", "import t s v2", "verify s"} {
		if r := tool.Run(f, line); r.Code != api.OK || r.Nodes != api.MaxNodes || r.Rels != api.MaxRels {
			t.Errorf("%q: %v", line, r)
		}
	}
	wantGraph(t, f, "s", g)
}

func wantGraph(t *testing.T, f *vfs.FS, name string, g api.Graph) {
	t.Helper()
	d, _ := find(f.View(), name)
	if h, _, e := kinds.Load(d.Files); e != api.OK || !graph.Same(g, h) {
		t.Errorf("%s: %.300v, %v", name, h, e)
	}
}
