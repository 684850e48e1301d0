package vfs_test

import (
	"math"
	"slices"
	"strconv"
	"strings"
	"testing"

	"satchel/api"
	"satchel/vfs"
)

// trueTimes is a keep that keeps the first n writes.
func trueTimes(n int) []bool { return slices.Repeat([]bool{true}, n) }

// kept is a keep from a text: 1 for true.
func kept(text string) []bool {
	keep := make([]bool, len(text))
	for i := range keep {
		keep[i] = text[i] == '1'
	}
	return keep
}

// must makes calls that succeed, each written as its words.
func must(t *testing.T, f *vfs.FS, calls ...string) {
	t.Helper()
	for _, c := range calls {
		if s, e := parsed(c).on(f); e != api.OK {
			t.Fatalf("%s: %q, %v", c, s, e)
		}
	}
}

// parsed reads a call such as Write a x 123.
func parsed(call string) op {
	words := append(strings.Fields(call), "", "", "")
	return op{words[0], words[1], words[2], words[3]}
}

func wantDisk(t *testing.T, what string, got, want []api.Dir) {
	t.Helper()
	if told(got) != told(want) {
		t.Errorf("%s: %s, want %s", what, told(got), told(want))
	}
}

// sample is a disk with 6 bytes.
func sample() []api.Dir {
	return []api.Dir{dir(".stage", file("x", "123"), file("y", "")), dir("a"), dir("b", file("x", "45"), file("z", "6"))}
}

// P8.1

func TestGoodPath(t *testing.T) {
	const allowed = "abcdefghijklmnopqrstuvwxyz0123456789._-"
	for c := range 256 {
		s := string([]byte{byte(c)})
		want := strings.Contains(allowed, s)
		for _, name := range []string{s, s + "bc", "a" + s + "c", "ab" + s, strings.Repeat("a", 29) + s} {
			if vfs.GoodPath(name) != want {
				t.Errorf("GoodPath(%q) = %t", name, !want)
			}
		}
	}
	for name, want := range map[string]bool{
		"": false, ".": true, "..": true, "-": true, "_": true, "0": true, ".stage": true, "nodes.csv": true, allowed[:30]: true, allowed[9:]: true, allowed[:31]: false, allowed: false,
		strings.Repeat("a", 30): true, strings.Repeat("a", 31): false, strings.Repeat("z", 100000): false, "a/b": false, "é": false, "a b": false, "ａ": false,
	} {
		if vfs.GoodPath(name) != want {
			t.Errorf("GoodPath(%q) = %t", name, !want)
		}
	}
}

func TestOpenErrors(t *testing.T) {
	long := strings.Repeat("a", 31)
	for _, c := range []struct {
		disk  []api.Dir
		quota int
		want  api.Errno
	}{
		{nil, -1, api.ErrArg},
		{nil, math.MinInt, api.ErrArg},
		{[]api.Dir{dir("A")}, -1, api.ErrArg},
		{[]api.Dir{dir("b"), dir("a")}, -1, api.ErrArg},
		{[]api.Dir{dir("")}, 0, api.ErrPath},
		{[]api.Dir{dir("A")}, 0, api.ErrPath},
		{[]api.Dir{dir(long)}, 9, api.ErrPath},
		{[]api.Dir{dir("a"), dir("b/c")}, 9, api.ErrPath},
		{[]api.Dir{dir("a", file("", ""))}, 9, api.ErrPath},
		{[]api.Dir{dir("a", file("x", ""), file("y ", ""))}, 9, api.ErrPath},
		{[]api.Dir{dir("a", file(long, ""))}, 9, api.ErrPath},
		{[]api.Dir{dir("a"), dir("a")}, 9, api.ErrOrder},
		{[]api.Dir{dir("b"), dir("a")}, 9, api.ErrOrder},
		{[]api.Dir{dir("a"), dir("c"), dir("b")}, 9, api.ErrOrder},
		{[]api.Dir{dir("ab"), dir("a")}, 9, api.ErrOrder},
		{[]api.Dir{dir("a"), dir("_")}, 9, api.ErrOrder},
		{[]api.Dir{dir("0"), dir(".")}, 9, api.ErrOrder},
		{[]api.Dir{dir("."), dir("-")}, 9, api.ErrOrder},
		{[]api.Dir{dir("a", file("x", ""), file("x", ""))}, 9, api.ErrOrder},
		{[]api.Dir{dir("a"), dir("b", file("x", ""), file("z", ""), file("y", ""))}, 9, api.ErrOrder},
		// At one name: that it is none comes first.
		{[]api.Dir{dir("a"), dir("A")}, 9, api.ErrPath},
		{[]api.Dir{dir("a"), dir("")}, 9, api.ErrPath},
		{[]api.Dir{dir("a", file("x", ""), file("X", ""))}, 9, api.ErrPath},
		// At two names: the first in the order of the disk, a directory's before those in it.
		{[]api.Dir{dir("b"), dir("a"), dir("A")}, 9, api.ErrOrder},
		{[]api.Dir{dir("A"), dir("c"), dir("b")}, 9, api.ErrPath},
		{[]api.Dir{dir("a", file("y", ""), file("x", "")), dir("B")}, 9, api.ErrOrder},
		{[]api.Dir{dir("a", file("Y", "")), dir("a")}, 9, api.ErrPath},
		{[]api.Dir{dir("b"), dir("a", file("X", ""))}, 9, api.ErrOrder},
		{[]api.Dir{dir("B", file("y", ""), file("x", ""))}, 9, api.ErrPath},
	} {
		for _, at := range []int{-1, 0, 5} {
			if f, e := vfs.Open(c.disk, c.quota, at); f != nil || e != c.want {
				t.Errorf("Open(%s, %d, %d) = %v, %v, want %v", told(c.disk), c.quota, at, f, e, c.want)
			}
		}
	}
}

func TestOpenIsSafe(t *testing.T) {
	for _, disk := range [][]api.Dir{
		nil, sample(), {dir("a")},
		{dir("-"), dir("."), dir("0"), dir("_"), dir("a"), dir("a-"), dir("a-a"), dir("aa", file("-", "1"), file(".", "2"), file("9", "3"), file("_", "4"), file("a", "5"), file("aa", "6"), file("b", "7")), dir("b", file("-", "1"))},
		{dir(strings.Repeat("a", 30), file(strings.Repeat("z", 30), "\x00\xff"))},
	} {
		m := newModel(disk, 0, -1)
		for _, quota := range []int{0, 1, 6, 1000, math.MaxInt} {
			f := opened(t, disk, quota, -1)
			wantDisk(t, "View", f.View(), disk)
			for _, fate := range []api.Fate{{}, {Names: -1}, {Names: 9, Keep: trueTimes(9)}} {
				wantDisk(t, "Durable", f.Durable(fate), disk)
			}
			if f.Steps() != 0 || f.Down() || f.Used() != m.used() {
				t.Errorf("Steps %d, Down %t, Used %d, want 0, false, %d", f.Steps(), f.Down(), f.Used(), m.used())
			}
		}
	}
}

func TestOpenFilesInAnyTwoDirectories(t *testing.T) {
	disk := []api.Dir{dir("a", file("x", "1"), file("y", "2")), dir("b", file("a", "3"), file("x", "4"))}
	f := opened(t, disk, 100, -1)
	must(t, f, "Write a x 5", "Write b x 6", "Remove a y")
	wantDisk(t, "View", f.View(), []api.Dir{dir("a", file("x", "15")), dir("b", file("a", "3"), file("x", "46"))})
}

// P8.2

// errorCalls are calls on sample with a quota of 8, and their errors.
var errorCalls = map[string]api.Errno{
	"Mkdir A": api.ErrPath, "Mkdir": api.ErrPath, "Mkdir a": api.ErrExist, "Mkdir .stage": api.ErrExist,
	"Create A x": api.ErrPath, "Create a X": api.ErrPath, "Create c X": api.ErrPath, "Create A": api.ErrPath, "Create c x": api.ErrNone, "Create b x": api.ErrExist, "Create .stage y": api.ErrExist,
	"Write B x 1": api.ErrPath, "Write b X 1": api.ErrPath, "Write c X 1": api.ErrPath, "Write B x 1234": api.ErrPath, "Write c x": api.ErrNone, "Write c x 1234": api.ErrNone, "Write a x 1234": api.ErrNone, "Write b y": api.ErrNone,
	"Write b x 789": api.ErrQuota, "Write .stage y 7890": api.ErrQuota,
	"Sync B x": api.ErrPath, "Sync b X": api.ErrPath, "Sync c X": api.ErrPath, "Sync c x": api.ErrNone, "Sync a x": api.ErrNone,
	"Rename A b": api.ErrPath, "Rename a B": api.ErrPath, "Rename c B": api.ErrPath, "Rename a": api.ErrPath, "Rename c a": api.ErrNone, "Rename c d": api.ErrNone, "Rename c c": api.ErrNone, "Rename x y": api.ErrNone,
	"Remove B x": api.ErrPath, "Remove b X": api.ErrPath, "Remove c X": api.ErrPath, "Remove c x": api.ErrNone, "Remove a x": api.ErrNone, "Remove b y": api.ErrNone,
	"Rmdir B": api.ErrPath, "Rmdir c": api.ErrNone, "Rmdir b": api.ErrBusy, "Rmdir .stage": api.ErrBusy, "Rmdir x": api.ErrNone,
	"Read B x": api.ErrPath, "Read b X": api.ErrPath, "Read c X": api.ErrPath, "Read c x": api.ErrNone, "Read a x": api.ErrNone, "Read b y": api.ErrNone,
	"List B": api.ErrPath, "List": api.ErrPath, "List c": api.ErrNone, "List x": api.ErrNone,
}

func TestErrors(t *testing.T) {
	f := opened(t, sample(), 8, -1)
	must(t, f, "SyncNames")
	for call, want := range errorCalls {
		if s, e := parsed(call).on(f); s != "" || e != want {
			t.Errorf("%s: %q, %v, want %v", call, s, e, want)
		}
		wantDisk(t, call+", then View", f.View(), sample())
		wantDisk(t, call+", then Durable", f.Durable(api.Fate{Names: 9, Keep: trueTimes(9)}), sample())
		if f.Steps() != 1 || f.Used() != 6 {
			t.Errorf("%s: Steps %d, Used %d, want 1, 6", call, f.Steps(), f.Used())
		}
	}
	must(t, f, "Write b x 78")
	wantDisk(t, "one write kept", f.Durable(api.Fate{Keep: trueTimes(1)})[2:], []api.Dir{dir("b", file("x", "4578"), file("z", "6"))})
}

// Without power no call looks at anything else, be it right or wrong.
func TestErrPowerIsFirst(t *testing.T) {
	right := []string{"Mkdir c", "Create a x", "Write b x 1", "Write b x", "Sync b x", "SyncNames", "Rename a b", "Rename a a", "Remove b x", "Rmdir a", "Read b x", "List b", "Dirs"}
	f := opened(t, sample(), 8, 0)
	for call := range errorCalls {
		right = append(right, call)
	}
	for _, call := range right {
		if s, e := parsed(call).on(f); s != "" || e != api.ErrPower {
			t.Errorf("%s: %q, %v, want ErrPower", call, s, e)
		}
	}
	if !f.Down() || f.Steps() != 0 || f.Used() != 0 || len(f.View()) != 0 {
		t.Errorf("Down %t, Steps %d, Used %d, View %s", f.Down(), f.Steps(), f.Used(), told(f.View()))
	}
	wantDisk(t, "Durable", f.Durable(api.Fate{Names: 9, Keep: trueTimes(9)}), sample())
}

// The power goes with the change whose number is at; calls that fail and calls that read are no changes.
func TestPowerGoes(t *testing.T) {
	changes := []string{"Mkdir c", "Create c x", "Write c x 12", "Write c x", "Sync c x", "SyncNames", "Rename c c", "Rename c d", "Remove d x", "Rmdir d"}
	for at := -3; at <= len(changes); at++ {
		f := opened(t, nil, 5, at)
		for i, call := range changes {
			want := api.OK
			if at >= 0 && i >= at {
				want = api.ErrPower
			}
			if f.Down() != (want != api.OK) {
				t.Errorf("at %d, after %d changes: Down %t", at, i, f.Down())
			}
			for _, other := range []string{"Mkdir A", "Rmdir q", "Create q x", "Write c x 123456", "Read c y", "Read c x", "List c", "List d", "Dirs"} {
				if _, e := parsed(other).on(f); want != api.OK && e != api.ErrPower {
					t.Errorf("at %d, after %d changes, %s: %v", at, i, other, e)
				}
			}
			if _, e := parsed(call).on(f); e != want {
				t.Errorf("at %d, after %d changes, %s: %v, want %v", at, i, call, e, want)
			}
		}
		want := len(changes)
		if at >= 0 {
			want = at
		}
		if f.Steps() != want {
			t.Errorf("at %d: Steps %d, want %d", at, f.Steps(), want)
		}
	}
}

func TestQuota(t *testing.T) {
	f := opened(t, []api.Dir{dir("a", file("x", "123"), file("y", "")), dir("b", file("x", "4"))}, 7, -1)
	wantError := func(call string, want api.Errno) {
		t.Helper()
		if _, e := parsed(call).on(f); e != want {
			t.Errorf("%s with %d bytes: %v, want %v", call, f.Used(), e, want)
		}
	}
	wantError("Write b x 5678", api.ErrQuota)
	wantError("Write b x 567", api.OK)
	wantError("Write a y 8", api.ErrQuota)
	wantError("Write a y", api.OK)
	// What is removed takes no room, though it is still safe.
	must(t, f, "Remove a x")
	wantError("Write a y 8901", api.ErrQuota)
	wantError("Write a y 89", api.OK)
	must(t, f, "Rename a b")
	wantError("Write b y 123456", api.ErrQuota)
	wantError("Write b y 12345", api.OK)
	must(t, f, "Rename b b")
	wantError("Write b y 1", api.ErrQuota)
	// Twice the same call: an ErrQuota has used nothing up.
	must(t, f, "Create b x", "Remove b y")
	wantError("Write b x 12345678", api.ErrQuota)
	wantError("Write b x 12345678", api.ErrQuota)
	wantError("Write b x 1234567", api.OK)
	if f.Used() != 7 {
		t.Errorf("Used %d, want 7", f.Used())
	}
}

func TestDiskAboveQuota(t *testing.T) {
	f := opened(t, sample(), 2, -1)
	if e := f.Write("b", "x", []byte{1}); e != api.ErrQuota {
		t.Errorf("Write above the quota: %v", e)
	}
	must(t, f, "Write b x", "Remove .stage x")
	if e := f.Write("b", "x", []byte{1}); e != api.ErrQuota || f.Used() != 3 {
		t.Errorf("Write above the quota: %v, Used %d", e, f.Used())
	}
	must(t, f, "Remove b x", "Write b z 7")
	wantDisk(t, "View", f.View(), []api.Dir{dir(".stage", file("y", "")), dir("a"), dir("b", file("z", "67"))})
	big := opened(t, sample(), math.MaxInt, math.MaxInt)
	must(t, big, "Write b x 12345678")
	if e := opened(t, []api.Dir{dir("a", file("x", ""))}, 0, -1).Write("a", "x", []byte{1}); e != api.ErrQuota {
		t.Errorf("Write with a quota of 0: %v", e)
	}
}

// P8.3

func TestChanges(t *testing.T) {
	f := opened(t, sample(), 100, -1)
	for i, c := range []struct {
		call string
		want []api.Dir
	}{
		{"Mkdir c", append(sample(), dir("c"))},
		{"Create c w", append(sample(), dir("c", file("w", "")))},
		{"Write c w 12", append(sample(), dir("c", file("w", "12")))},
		{"Write c w", append(sample(), dir("c", file("w", "12")))},
		{"Write c w 1", append(sample(), dir("c", file("w", "121")))},
		{"Sync c w", append(sample(), dir("c", file("w", "121")))},
		{"SyncNames", append(sample(), dir("c", file("w", "121")))},
		{"Rename c c", append(sample(), dir("c", file("w", "121")))},
		{"Rename c d", append(sample(), dir("d", file("w", "121")))},
		{"Create d x", append(sample(), dir("d", file("w", "121"), file("x", "")))},
		{"Remove d w", append(sample(), dir("d", file("x", "")))},
		{"Rename b d", append(sample()[:2], dir("d", file("x", "45"), file("z", "6")))},
		{"Rmdir a", []api.Dir{sample()[0], dir("d", file("x", "45"), file("z", "6"))}},
		{"Rename d .stage", []api.Dir{dir(".stage", file("x", "45"), file("z", "6"))}},
		{"Mkdir d", []api.Dir{dir(".stage", file("x", "45"), file("z", "6")), dir("d")}},
		{"Rename d .stage", []api.Dir{dir(".stage")}},
		{"Rmdir .stage", nil},
	} {
		must(t, f, c.call)
		wantDisk(t, c.call, f.View(), c.want)
		if f.Steps() != i+1 {
			t.Errorf("%s: Steps %d, want %d", c.call, f.Steps(), i+1)
		}
	}
}

// A file that takes the name of a removed one begins empty, and so does a directory.
func TestNamesAnew(t *testing.T) {
	f := opened(t, sample(), 100, -1)
	must(t, f, "Remove b x", "Create b x", "Write b x 7", "Rename .stage c", "Mkdir .stage")
	wantDisk(t, "View", f.View(), []api.Dir{dir(".stage"), dir("a"), dir("b", file("x", "7"), file("z", "6")), dir("c", file("x", "123"), file("y", ""))})
}

// A long write is one write, and there may be many files.
func TestLongAndMany(t *testing.T) {
	f := opened(t, nil, 2000000, -1)
	long := strings.Repeat("0123456789", 100000)
	must(t, f, "Mkdir a")
	for i := range 500 {
		must(t, f, "Create a f"+strconv.Itoa(i), "Write a f"+strconv.Itoa(i)+" "+long[:i])
	}
	must(t, f, "Create a x", "SyncNames", "Write a x "+long, "Write a x 1", "Sync a f7")
	files := f.View()[0].Files
	if len(files) != 501 || f.Used() != 499*250+1000001 || f.Steps() != 1006 {
		t.Errorf("%d files, Used %d, Steps %d", len(files), f.Used(), f.Steps())
	}
	for _, x := range files[:500] {
		if i, _ := strconv.Atoi(x.Name[1:]); string(x.Data) != long[:i] {
			t.Errorf("%s holds %q", x.Name, x.Data)
		}
	}
	if string(files[500].Data) != long+"1" {
		t.Errorf("x holds %d bytes", len(files[500].Data))
	}
	// Of the files' writes the first is empty, and one is safe: 498 are left.
	keep := make([]bool, 499)
	keep[497], keep[498] = true, true
	left := f.Durable(api.Fate{Keep: keep})[0].Files
	for _, x := range left[:500] {
		if want := map[string]int{"f7": 7, "f499": 499}[x.Name]; string(x.Data) != long[:want] {
			t.Errorf("%s holds %q behind a loss of power", x.Name, x.Data)
		}
	}
	if string(left[500].Data) != long {
		t.Errorf("x holds %d bytes behind a loss of power", len(left[500].Data))
	}
}

// Sync is of the one file, and of its bytes alone.
func TestSync(t *testing.T) {
	f := opened(t, sample(), 100, -1)
	must(t, f, "Create a n", "Write a n 1", "Write b x 2", "Write b z 3", "Sync a n", "Sync b x")
	wantDisk(t, "no names", f.Durable(api.Fate{}), []api.Dir{sample()[0], dir("a"), dir("b", file("x", "452"), file("z", "6"))})
	wantDisk(t, "one name", f.Durable(api.Fate{Names: 1}), []api.Dir{sample()[0], dir("a", file("n", "1")), dir("b", file("x", "452"), file("z", "6"))})
	must(t, f, "SyncNames")
	wantDisk(t, "safe names", f.Durable(api.Fate{}), []api.Dir{sample()[0], dir("a", file("n", "1")), dir("b", file("x", "452"), file("z", "6"))})
}

// P8.4

func TestReading(t *testing.T) {
	f := opened(t, sample(), 100, -1)
	must(t, f, "Mkdir -", "Create b y", "Write b y 7", "Write b x 8", "Create b 0", "Create b .", "Create b z-")
	for call, want := range map[string]string{
		"Dirs": "-/.stage/a/b", "List -": "", "List .stage": "x/y", "List a": "", "List b": "./0/x/y/z/z-",
		"Read b x": "458", "Read b y": "7", "Read b z": "6", "Read b 0": "", "Read .stage y": "", "Read .stage x": "123",
	} {
		for range 2 {
			if s, e := parsed(call).on(f); s != want || e != api.OK {
				t.Errorf("%s: %q, %v, want %q", call, s, e, want)
			}
		}
	}
	if f.Used() != 8 || f.Steps() != 7 || f.Down() {
		t.Errorf("Used %d, Steps %d, Down %t, want 8, 7, false", f.Used(), f.Steps(), f.Down())
	}
	if names, e := opened(t, nil, 0, -1).Dirs(); len(names) != 0 || e != api.OK {
		t.Errorf("Dirs of nothing: %v, %v", names, e)
	}
}

// What is seen goes with the power, but not what is left.
func TestViewWithoutPower(t *testing.T) {
	f := opened(t, sample(), 100, 3)
	must(t, f, "Write b x 7", "Mkdir c")
	if f.Used() != 7 || len(f.View()) != 4 {
		t.Errorf("before: Used %d, View %s", f.Used(), told(f.View()))
	}
	must(t, f, "Write b z 8")
	if f.Used() != 0 || len(f.View()) != 0 || f.Steps() != 3 || !f.Down() {
		t.Errorf("after: Used %d, View %s, Steps %d, Down %t", f.Used(), told(f.View()), f.Steps(), f.Down())
	}
	wantDisk(t, "nothing kept", f.Durable(api.Fate{}), sample())
	wantDisk(t, "the name kept", f.Durable(api.Fate{Names: 1, Keep: kept("0")}), append(sample(), dir("c")))
	wantDisk(t, "all kept", f.Durable(api.Fate{Names: 1, Keep: kept("11")}), append(sample()[:2], dir("b", file("x", "457"), file("z", "68")), dir("c")))
}

// P8.5

func TestExamples(t *testing.T) {
	f := opened(t, nil, 100, -1)
	must(t, f, "Mkdir a", "Create a x", "Write a x 12", "Sync a x")
	for names, want := range [][]api.Dir{nil, {dir("a")}, {dir("a", file("x", "12"))}, {dir("a", file("x", "12"))}} {
		wantDisk(t, "Durable", f.Durable(api.Fate{Names: names}), want)
	}
	must(t, f, "SyncNames", "Write a x 3", "Rename a b")
	wantDisk(t, "nothing", f.Durable(api.Fate{}), []api.Dir{dir("a", file("x", "12"))})
	wantDisk(t, "all", f.Durable(api.Fate{Names: 1, Keep: kept("1")}), []api.Dir{dir("b", file("x", "123"))})
}

func TestNamesOfAFate(t *testing.T) {
	f := opened(t, sample()[1:], 100, -1)
	must(t, f, "Rename b a", "Sync a x", "Mkdir c", "Write a x", "Create c w", "Remove a z", "Rename c c", "Remove c w", "Rmdir c", "Rename a b")
	b := func(name string) api.Dir { return dir(name, file("x", "45")) }
	states := [][]api.Dir{
		sample()[1:],
		{dir("a", file("x", "45"), file("z", "6"))},
		{dir("a", file("x", "45"), file("z", "6")), dir("c")},
		{dir("a", file("x", "45"), file("z", "6")), dir("c", file("w", ""))},
		{b("a"), dir("c", file("w", ""))},
		{b("a"), dir("c", file("w", ""))}, // the Rename to the same name counts
		{b("a"), dir("c")},
		{b("a")},
		{b("b")},
	}
	for names, want := range states {
		wantDisk(t, "Durable", f.Durable(api.Fate{Names: names}), want)
	}
	for _, names := range []int{-1, -2, math.MinInt} {
		wantDisk(t, "Durable of a negative number", f.Durable(api.Fate{Names: names}), states[0])
	}
	for _, names := range []int{9, 100, math.MaxInt} {
		wantDisk(t, "Durable of many", f.Durable(api.Fate{Names: names}), states[8])
	}
	must(t, f, "SyncNames")
	wantDisk(t, "Durable of none", f.Durable(api.Fate{}), states[8])
	must(t, f, "Mkdir q")
	wantDisk(t, "Durable of none", f.Durable(api.Fate{}), states[8])
	wantDisk(t, "Durable of one", f.Durable(api.Fate{Names: 1}), append(slices.Clone(states[8]), dir("q")))
}

// The writes are numbered over all files in the order in which they were made.
func TestNumbersOfWrites(t *testing.T) {
	f := opened(t, []api.Dir{dir("a", file("x", "-"), file("y", "-"))}, 100, -1)
	must(t, f, "Write a y 1", "Write a x 22", "Write a y", "Write a y 3", "Write a x 4", "Write a y 5")
	for keep, want := range map[string][2]string{
		"": {"-", "-"}, "1": {"-", "-1"}, "01": {"-22", "-"}, "001": {"-", "-\x003"}, "0001": {"-\x00\x004", "-"}, "00001": {"-", "-\x00\x005"},
		"11111": {"-224", "-135"}, "10101": {"-", "-135"}, "0101": {"-224", "-"}, "1111111": {"-224", "-135"}, "0000011": {"-", "-"},
	} {
		wantDisk(t, "Keep "+keep, f.Durable(api.Fate{Keep: kept(keep)}), []api.Dir{dir("a", file("x", want[0]), file("y", want[1]))})
	}
	must(t, f, "Sync a x", "Write a x 6")
	for keep, want := range map[string][2]string{"": {"-224", "-"}, "01": {"-224", "-\x003"}, "001": {"-224", "-\x00\x005"}, "0001": {"-2246", "-"}} {
		wantDisk(t, "behind Sync, Keep "+keep, f.Durable(api.Fate{Keep: kept(keep)}), []api.Dir{dir("a", file("x", want[0]), file("y", want[1]))})
	}
}

// The writes of files that no name leads to are numbered all the same.
func TestWritesOfLostFiles(t *testing.T) {
	for _, lose := range [][]string{
		{"Remove b x", "Remove b z"},
		{"Remove b x", "Remove b z", "Rmdir b"},
		{"Rename a b"},
		{"Rename b b", "Rename a b", "Mkdir a", "Rename a b"},
		{"Remove b x", "Remove b z", "Create b x", "Create b z"},
	} {
		for _, safe := range []bool{false, true} {
			f := opened(t, append(sample(), dir("c", file("x", "-"))), 100, -1)
			must(t, f, "Write c x 1", "Write b x 2", "Write b z 3", "Write c x 4")
			must(t, f, lose...)
			if safe {
				must(t, f, "SyncNames")
			}
			must(t, f, "Write c x 5")
			for keep, want := range map[string]string{"1": "-1", "011": "-", "0001": "-\x004", "00001": "-\x00\x005", "10011": "-145"} {
				left := f.Durable(api.Fate{Names: 100, Keep: kept(keep)})
				wantDisk(t, strings.Join(lose, ", ")+", Keep "+keep, left[len(left)-1:], []api.Dir{dir("c", file("x", want))})
			}
			if !safe {
				wantDisk(t, "the lost files", f.Durable(api.Fate{Keep: kept("011")})[2:3], []api.Dir{dir("b", file("x", "452"), file("z", "63"))})
			}
		}
	}
}

// A write stays with its file, whatever becomes of the file's names.
func TestWritesOfRenamedFiles(t *testing.T) {
	f := opened(t, sample(), 100, -1)
	must(t, f, "Write b x 7", "Rename b c", "Write c x 8", "Mkdir b", "Create b x", "Write b x 9")
	wantDisk(t, "the old name", f.Durable(api.Fate{Keep: kept("11")})[2:], []api.Dir{dir("b", file("x", "4578"), file("z", "6"))})
	wantDisk(t, "both names", f.Durable(api.Fate{Names: 9, Keep: kept("011")})[2:], []api.Dir{dir("b", file("x", "9")), dir("c", file("x", "45\x008"), file("z", "6"))})
	must(t, f, "Sync c x")
	wantDisk(t, "the old name, behind Sync", f.Durable(api.Fate{Keep: kept("1")})[2:], []api.Dir{dir("b", file("x", "4578"), file("z", "6"))})
	wantDisk(t, "both names, behind Sync", f.Durable(api.Fate{Names: 9})[2:], []api.Dir{dir("b", file("x", "")), dir("c", file("x", "4578"), file("z", "6"))})
}

// P8.6 and rules 5 and 6

// roomyDisk copies a disk, each list with room behind it.
func roomyDisk(disk []api.Dir) []api.Dir {
	c := roomy(disk)
	for i, d := range c {
		c[i].Files = roomy(d.Files)
		for j, x := range c[i].Files {
			c[i].Files[j].Data = roomy(x.Data)
		}
	}
	return c
}

func roomy[T any](list []T) []T {
	all := make([]T, len(list)+4)
	copy(all, list)
	return all[:len(list)]
}

// spoilDisk overwrites all that a disk reaches, with the room behind it.
func spoilDisk(disk []api.Dir) {
	disk = disk[:cap(disk)]
	for i := range disk {
		spoilFiles(disk[i].Files)
		disk[i] = dir("spoilt", file("spoilt", "spoilt"))
	}
}

func spoilFiles(files []api.File) {
	files = files[:cap(files)]
	for i := range files {
		spoil(files[i].Data, 77)
		files[i] = file("spoilt", "spoilt")
	}
}

func spoil[T any](list []T, with T) {
	list = list[:cap(list)]
	for i := range list {
		list[i] = with
	}
}

func TestOpenCopiesTheDisk(t *testing.T) {
	disk := roomyDisk(sample())
	f := opened(t, disk, 100, -1)
	must(t, f, "Write b x 7", "Write .stage y 8", "Create a n", "Mkdir c", "Rename c d", "Remove b z")
	wantDisk(t, "the argument", disk, sample())
	for i, d := range disk[:cap(disk)] {
		if i >= len(disk) && (d.Name != "" || d.Files != nil) {
			t.Errorf("the room behind the argument holds %v", d)
		}
		for j, x := range d.Files[:cap(d.Files)] {
			if j >= len(d.Files) && (x.Name != "" || x.Data != nil) || slices.Max(append(x.Data[len(x.Data):cap(x.Data)], 0)) != 0 {
				t.Errorf("the room in the argument holds %v", x)
			}
		}
	}
	spoilDisk(disk)
	wantDisk(t, "View", f.View(), []api.Dir{dir(".stage", file("x", "123"), file("y", "8")), dir("a", file("n", "")), dir("b", file("x", "457")), dir("d")})
	wantDisk(t, "Durable", f.Durable(api.Fate{}), sample())
}

func TestWriteCopiesItsData(t *testing.T) {
	f := opened(t, sample(), 100, -1)
	data := roomy([]byte("78"))
	for range 2 {
		if e := f.Write("b", "x", data); e != api.OK {
			t.Fatal(e)
		}
	}
	if string(data[:cap(data)]) != "78\x00\x00\x00\x00" {
		t.Errorf("data became %q", data[:cap(data)])
	}
	spoil(data, 'x')
	wantDisk(t, "View", f.View()[2:], []api.Dir{dir("b", file("x", "457878"), file("z", "6"))})
	wantDisk(t, "Durable", f.Durable(api.Fate{Keep: kept("01")})[2:], []api.Dir{dir("b", file("x", "45\x00\x0078"), file("z", "6"))})
}

func TestDurableLeavesItsFate(t *testing.T) {
	f := opened(t, sample(), 100, -1)
	must(t, f, "Write b x 7", "Write b x 8", "Mkdir c", "Write b z 9")
	keep := roomy(kept("101"))
	want := slices.Clone(keep[:cap(keep)])
	f.Durable(api.Fate{Names: 1, Keep: keep})
	if !slices.Equal(keep[:cap(keep)], want) {
		t.Errorf("Keep became %v", keep[:cap(keep)])
	}
	spoil(keep, true)
	wantDisk(t, "Durable", f.Durable(api.Fate{}), sample())
}

// wantApart spoils each list of a disk in turn, and asks whether the others stay.
func wantApart(t *testing.T, what string, again func() []api.Dir) {
	t.Helper()
	want := told(again())
	for i := range again() {
		first := again()
		spoilFiles(first[i].Files)
		first[i].Files = again()[i].Files
		if told(first) != want {
			t.Errorf("%s: spoiling the files of directory %d leaves %s, want %s", what, i, told(first), want)
		}
		for j := range again()[i].Files {
			first := again()
			spoil(first[i].Files[j].Data, 77)
			first[i].Files[j].Data = again()[i].Files[j].Data
			if told(first) != want {
				t.Errorf("%s: spoiling file %d of directory %d leaves %s, want %s", what, j, i, told(first), want)
			}
		}
	}
	first, second := again(), again()
	spoilDisk(first)
	if told(second) != want || told(again()) != want {
		t.Errorf("%s: spoiling one leaves %s and %s, want %s", what, told(second), told(again()), want)
	}
}

func TestResultsAreNewMemory(t *testing.T) {
	f := opened(t, sample(), 100, -1)
	wantApart(t, "View of a new one", f.View)
	must(t, f, "Write b x 7", "Write b x 8", "Create a n", "Write a n 999", "Write b x", "Sync a n", "Write .stage y 5")
	wantApart(t, "View", f.View)
	wantApart(t, "Durable", func() []api.Dir { return f.Durable(api.Fate{}) })
	wantApart(t, "Durable of all", func() []api.Dir { return f.Durable(api.Fate{Names: 9, Keep: trueTimes(9)}) })
	for range 2 {
		b, _ := f.Read("b", "x")
		c, _ := f.Read("b", "x")
		spoil(b, 77)
		list, _ := f.List("b")
		list2, _ := f.List("b")
		spoil(list, "spoilt")
		dirs, _ := f.Dirs()
		dirs2, _ := f.Dirs()
		spoil(dirs, "spoilt")
		if string(c) != "4578" || !slices.Equal(list2, []string{"x", "z"}) || !slices.Equal(dirs2, []string{".stage", "a", "b"}) {
			t.Errorf("Read %q, List %q, Dirs %q", c, list2, dirs2)
		}
	}
	old := f.View()
	read, _ := f.Read("b", "x")
	must(t, f, "Write b x 1", "Create b y", "Mkdir b1", "Sync b x", "Remove b z")
	wantDisk(t, "an old View", old, []api.Dir{dir(".stage", file("x", "123"), file("y", "5")), dir("a", file("n", "999")), dir("b", file("x", "4578"), file("z", "6"))})
	if string(read) != "4578" {
		t.Errorf("an old Read became %q", read)
	}
}

func TestFileSystemsAreIndependent(t *testing.T) {
	disk := sample()
	a, b := opened(t, disk, 100, -1), opened(t, disk, 100, 1)
	must(t, a, "Write b x 7", "Mkdir c", "Remove b z", "SyncNames")
	wantDisk(t, "the other one", b.View(), sample())
	must(t, b, "Rename b a")
	if b.Steps() != 1 || !b.Down() || a.Down() || a.Steps() != 4 {
		t.Errorf("Steps %d and %d, Down %t and %t", a.Steps(), b.Steps(), a.Down(), b.Down())
	}
	wantDisk(t, "the first one", a.View(), append(sample()[:2], dir("b", file("x", "457")), dir("c")))
	wantDisk(t, "what the other one leaves", b.Durable(api.Fate{Names: 1, Keep: kept("1")}), []api.Dir{sample()[0], dir("a", sample()[2].Files...)})
}
