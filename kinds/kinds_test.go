package kinds_test

import (
	"bytes"
	"math"
	"math/rand"
	"slices"
	"strings"
	"testing"

	"satchel/api"
	"satchel/graph"
	"satchel/kinds"
)

func sameFiles(a, b []api.File) bool {
	return slices.EqualFunc(a, b, func(x, y api.File) bool { return x.Name == y.Name && bytes.Equal(x.Data, y.Data) })
}

func sizeOf(files []api.File) int {
	size := 0
	for _, f := range files {
		size += len(f.Data)
	}
	return size
}

// outline gives the names and sizes of files, for messages.
func outline(files []api.File) string {
	var s strings.Builder
	for _, f := range files {
		s.WriteString(f.Name + " " + string(f.Data[:min(len(f.Data), 20)]) + "; ")
	}
	return s.String()
}

// wantLoad compares Sniff and Load with the model.
func wantLoad(t *testing.T, files []api.File) api.Errno {
	t.Helper()
	want, kind, wrong := read(files)
	if k := kinds.Sniff(files); k != kind {
		t.Fatalf("Sniff(%q) = %d, want %d", outline(files), k, kind)
	}
	g, k, e := kinds.Load(files)
	if k != kind || e != wrong || !graph.Same(g, want) {
		t.Fatalf("Load(%q) = %+v, %d, %v, want %+v, %d, %v", outline(files), g, k, e, want, kind, wrong)
	}
	return e
}

// wantMade makes the files of all kinds for a valid graph, compares them with the model and their bytes with the bound, and loads them.
func wantMade(t *testing.T, g api.Graph) {
	t.Helper()
	for kind := 1; kind <= 5; kind++ {
		files, e := kinds.Make(kind, g)
		if want, _ := write(kind, g); e != api.OK || !sameFiles(files, want) {
			t.Fatalf("Make(%d, %.300v) = %q, %v, want %q", kind, g, outline(files), e, outline(want))
		}
		if b := kinds.Bound(kind, g); b != bound(kind, g) || sizeOf(files) > b {
			t.Fatalf("Bound(%d, %.300v) = %d, want %d, for %d bytes", kind, g, b, bound(kind, g), sizeOf(files))
		}
		if h, k, e := kinds.Load(files); k != kind || e != api.OK || !graph.Same(g, h) || kinds.Sniff(files) != kind {
			t.Fatalf("Load = %.300v, %d, %v, want %.300v, %d", h, k, e, g, kind)
		}
	}
}

// P26.1
func TestNames(t *testing.T) {
	names := kinds.Names()
	for range 2 {
		n := 0
		for kind, name := range names {
			if n++; kind != n || name != words[n] {
				t.Errorf("number %d is %d, %q", n, kind, name)
			}
		}
		if n != 5 {
			t.Errorf("%d names", n)
		}
		for stop := 1; stop <= 5; stop++ {
			n = 0
			for kind := range names {
				if n++; kind == stop {
					break
				}
			}
			if n != stop {
				t.Errorf("stopped at %d, there were %d", stop, n)
			}
		}
	}
}

// P26.1: the names, and every text that one byte more, less or other makes of them.
func TestNamed(t *testing.T) {
	want := map[string]int{"": 0, "v": 0, "v3": 0, "V1": 0, "csv,": 0, "nodes.csv": 0, "script": 0, "archive\x00": 0, " v1": 0, "none": 0, strings.Repeat("v1", 9): 0}
	for _, name := range words {
		for i := range len(name) + 1 {
			for b := range 256 {
				want[name[:i]+string([]byte{byte(b)})+name[i:]] = 0
				if i < len(name) {
					want[name[:i]+string([]byte{byte(b)})+name[i+1:]] = 0
				}
			}
			if i < len(name) {
				want[name[:i]+name[i+1:]] = 0
			}
		}
	}
	for kind, name := range words {
		want[name] = kind
	}
	for name, kind := range want {
		if k, ok := kinds.Named(name); k != kind || ok != (kind > 0) {
			t.Errorf("Named(%q) = %d, %t", name, k, ok)
		}
	}
}

// P26.2, P26.3
func TestExamples(t *testing.T) {
	for i, c := range []struct {
		files []api.File
		kind  int
		e     api.Errno
	}{
		{[]api.File{{Name: "script"}}, 5, api.OK},
		{[]api.File{{Name: "meta", Data: []byte("?")}, {Name: "x"}}, 1, api.ErrFiles},
		{nil, 0, api.ErrFiles},
		{[]api.File{}, 0, api.ErrFiles},
	} {
		if g, k, e := kinds.Load(c.files); k != c.kind || e != c.e || !graph.Same(g, api.Graph{}) || kinds.Sniff(c.files) != c.kind {
			t.Errorf("%d: Load = %v, %d, %v", i, g, k, e)
		}
	}
}

// P26.2, P26.3: all lists of up to three files with the names and contents that matter.
func TestShortLists(t *testing.T) {
	var some []api.File
	for _, data := range []string{"", "GSTR", "GSTR\x00", "GSTR\x00\x01", "GSTR\x00\x02", "GSTR\x00\x03", "GSTR\x01\x02", "gstr\x00\x02", "GSTR\x00\x02\x00", "\x00GSTR\x00\x02"} {
		some = append(some, api.File{Name: "meta", Data: []byte(data)})
	}
	for _, name := range []string{"archive", "nodes.csv", "rels.csv", "script", "", "x", "Meta", "meta ", "metamorphosis", "archive2", "labels"} {
		some = append(some, api.File{Name: name}, api.File{Name: name, Data: []byte("GSTR\x00\x02")})
	}
	some = append(some, api.File{Name: "nodes.csv", Data: []byte(":ID,:LABEL\r\n")}, api.File{Name: "rels.csv", Data: []byte(":ID,:START,:END,:TYPE\r\n")}, api.File{Name: "script", Data: []byte("CREATE (n1);")}, api.File{Name: "script", Data: []byte("CREATE (n1)")})
	lists := [][]api.File{nil}
	errors := map[api.Errno]int{}
	for i := 0; i < len(lists); i++ {
		errors[wantLoad(t, lists[i])]++
		for _, f := range some {
			if len(lists[i]) < 3 {
				lists = append(lists, append(slices.Clone(lists[i]), f))
			}
		}
	}
	for _, e := range []api.Errno{api.OK, api.ErrFiles, api.ErrShort, api.ErrHeader, api.ErrSyntax} {
		if errors[e] == 0 {
			t.Errorf("no list with %v: %v", e, errors)
		}
	}
}

// P26.2, P26.3: directories of which a file was taken, added, renamed or moved, or some bytes were changed.
func TestChangedDirectories(t *testing.T) {
	rng := rand.New(rand.NewSource(1))
	loaded := map[int]int{}
	wrong := map[int]int{}
	names := []string{"meta", "archive", "nodes.csv", "rels.csv", "script", "nodes", "x"}
	for range 10000 {
		files, _ := write(1+rng.Intn(5), randomGraph(rng))
		i, k := rng.Intn(len(files)), rng.Intn(len(files))
		switch rng.Intn(8) {
		case 0:
			files = slices.Delete(files, i, i+1)
		case 1:
			files = slices.Insert(files, i, api.File{Name: names[rng.Intn(7)], Data: files[k].Data})
		case 2:
			files[i].Name = names[rng.Intn(7)]
		case 3:
			files[i], files[k] = files[k], files[i]
		case 4:
			files[i].Data = files[i].Data[:rng.Intn(len(files[i].Data)+1)]
		case 5, 6:
			if data := files[i].Data; len(data) > 0 {
				data[rng.Intn(len(data))] = byte(rng.Intn(4))
			}
		}
		if e := wantLoad(t, files); e == api.OK {
			loaded[kindOf(files)]++
		} else {
			wrong[kindOf(files)]++
		}
	}
	for kind := range 6 {
		if kind > 0 && loaded[kind] == 0 || wrong[kind] == 0 {
			t.Errorf("of kind %d %d were loaded, and %d weren't", kind, loaded[kind], wrong[kind])
		}
	}
}

// P26.4, P26.5: numbers that are no kind's.
func TestNoKinds(t *testing.T) {
	for _, kind := range []int{math.MinInt, -2, -1, 0, 6, 7, 8, 1 << 8, 1<<8 + 1, 1 << 16, 1<<32 + 1, math.MaxInt} {
		for _, g := range []api.Graph{{}, sample(), {Nodes: []api.Node{{Id: -1}}}} {
			if files, e := kinds.Make(kind, g); e != api.ErrArg || len(files) != 0 {
				t.Errorf("Make(%d) = %q, %v", kind, outline(files), e)
			}
			if b := kinds.Bound(kind, g); b != 0 {
				t.Errorf("Bound(%d) = %d", kind, b)
			}
		}
	}
}

// P26.4, P26.5
func TestWrongGraphs(t *testing.T) {
	for want, g := range wrongs() {
		if e, _ := graph.Check(g); e != want {
			t.Fatalf("the graph has %v, not %v", e, want)
		}
		for kind := 1; kind <= 5; kind++ {
			if files, e := kinds.Make(kind, g); e != want || len(files) != 0 {
				t.Errorf("Make(%d) = %q, %v, want %v", kind, outline(files), e, want)
			}
			if b := kinds.Bound(kind, g); b != 0 {
				t.Errorf("Bound(%d) = %d beside %v", kind, b, want)
			}
		}
	}
}

// P26.5: the formula, number by number.
func TestBound(t *testing.T) {
	for kind := 1; kind <= 5; kind++ {
		empty := []int{1100, 1100, 100, 100, 100}[kind-1]
		if b := kinds.Bound(kind, api.Graph{}); b != empty {
			t.Errorf("Bound(%d) of the empty graph = %d", kind, b)
		}
		// Nodes 4 and 9, a relationship 6 with the type A, the label A, the keys A and B, three properties of 9, 2 and 4 bytes.
		g := api.Graph{
			Nodes: []api.Node{{Id: 4, Labels: []string{"A"}, Props: []api.Prop{prop("A", number(1)), prop("B", api.Value{Kind: api.KindBool})}}, {Id: 9}},
			Rels:  []api.Rel{{Id: 6, Type: "A", From: 4, To: 9, Props: []api.Prop{prop("B", text("x"))}}},
		}
		want := []int{
			1100 + 17*10 + 31*7 + 52*3 + 42*4 + 2*15,
			1100 + 66*10 + 109*7 + 38*3 + 42*4 + 2*15,
			100 + 600*2 + 600*1 + 100*3 + 100*4 + 8*15,
			100 + 600*2 + 600*1 + 100*3 + 100*4 + 8*15,
			100 + 600*2 + 600*1 + 100*3 + 100*4 + 8*15,
		}[kind-1]
		if b := kinds.Bound(kind, g); b != want {
			t.Errorf("Bound(%d) = %d, want %d", kind, b, want)
		}
	}
}

// P26.4 to P26.6
func TestSomeGraphs(t *testing.T) {
	wantMade(t, api.Graph{})
	wantMade(t, sample())
	wantMade(t, star())
	wantMade(t, api.Graph{Nodes: []api.Node{{Id: 1023}}, Rels: []api.Rel{{Id: 2047, Type: "T", From: 1023, To: 1023}}})
	for _, id := range []int{0, 1, 511, 1023} {
		wantMade(t, api.Graph{Nodes: []api.Node{{Id: id}}})
	}
}

// P26.4 to P26.6
func TestRandomGraphs(t *testing.T) {
	rng := rand.New(rand.NewSource(2))
	for range 1500 {
		wantMade(t, randomGraph(rng))
	}
}

// P26.5, P26.6: graphs at the limits, whose files are as long as may be.
func TestLimits(t *testing.T) {
	wantMade(t, full())
	for _, v := range longest() {
		wantMade(t, laden(v))
	}
}
