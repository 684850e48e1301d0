package vfs_test

import (
	"maps"
	"math/rand"
	"slices"
	"strconv"
	"strings"
	"testing"

	"satchel/api"
	"satchel/vfs"
)

// op is a call of a file system: a is a directory, b is a file or the second name of Rename.
type op struct {
	call, a, b string
	data       string
}

// on makes the call, and tells what else it returned.
func (o op) on(f *vfs.FS) (string, api.Errno) {
	switch o.call {
	case "Mkdir":
		return "", f.Mkdir(o.a)
	case "Create":
		return "", f.Create(o.a, o.b)
	case "Write":
		return "", f.Write(o.a, o.b, []byte(o.data))
	case "Sync":
		return "", f.Sync(o.a, o.b)
	case "SyncNames":
		return "", f.SyncNames()
	case "Rename":
		return "", f.Rename(o.a, o.b)
	case "Remove":
		return "", f.Remove(o.a, o.b)
	case "Rmdir":
		return "", f.Rmdir(o.a)
	case "Read":
		b, e := f.Read(o.a, o.b)
		return string(b), e
	case "List":
		names, e := f.List(o.a)
		return strings.Join(names, "/"), e
	case "Dirs":
		names, e := f.Dirs()
		return strings.Join(names, "/"), e
	}
	panic("no call " + o.call)
}

// told is a disk as a text.
func told(disk []api.Dir) string {
	var s strings.Builder
	for _, d := range disk {
		s.WriteString(strconv.Quote(d.Name) + "{")
		for _, x := range d.Files {
			s.WriteString(strconv.Quote(x.Name) + "=" + strconv.Quote(string(x.Data)) + ";")
		}
		s.WriteString("}")
	}
	return s.String()
}

// piece is one write, or what a file held at Open.
type piece struct {
	data string
	when int // the number of the write, of all that were ever made
	safe bool
}

type modelFile struct {
	pieces []piece
}

// bytes are those of the pieces that are wanted, at their places.
func (x *modelFile) bytes(wanted func(piece) bool) string {
	b, place := "", 0
	for _, p := range x.pieces {
		if wanted(p) {
			b += strings.Repeat("\x00", place-len(b)) + p.data
		}
		place += len(p.data)
	}
	return b
}

func all(piece) bool { return true }

type modelNames map[string]map[string]*modelFile

func (n modelNames) copied() modelNames {
	c := modelNames{}
	for dir, files := range n {
		c[dir] = maps.Clone(files)
	}
	return c
}

func (n modelNames) disk(wanted func(piece) bool) []api.Dir {
	var disk []api.Dir
	for _, dir := range slices.Sorted(maps.Keys(n)) {
		d := api.Dir{Name: dir}
		for _, name := range slices.Sorted(maps.Keys(n[dir])) {
			d.Files = append(d.Files, api.File{Name: name, Data: []byte(n[dir][name].bytes(wanted))})
		}
		disk = append(disk, d)
	}
	return disk
}

// model is a file system as the document tells it. It keeps the whole of the names after each name change, the safe ones first.
type model struct {
	quota, at, steps, writes int
	names                    []modelNames
	files                    []*modelFile // all that there have ever been
}

func newModel(disk []api.Dir, quota, at int) *model {
	m := &model{quota: quota, at: at}
	n := modelNames{}
	for _, d := range disk {
		n[d.Name] = map[string]*modelFile{}
		for _, x := range d.Files {
			n[d.Name][x.Name] = m.newFile(piece{data: string(x.Data), safe: true})
		}
	}
	m.names = []modelNames{n}
	return m
}

func (m *model) newFile(pieces ...piece) *modelFile {
	x := &modelFile{pieces}
	m.files = append(m.files, x)
	return x
}

func (m *model) down() bool { return m.at >= 0 && m.steps >= m.at }

func (m *model) seen() modelNames { return m.names[len(m.names)-1] }

func (m *model) view() []api.Dir {
	if m.down() {
		return nil
	}
	return m.seen().disk(all)
}

func (m *model) used() int {
	sum := 0
	for _, d := range m.view() {
		for _, x := range d.Files {
			sum += len(x.Data)
		}
	}
	return sum
}

func (m *model) pending() []int {
	var numbers []int
	for _, x := range m.files {
		for _, p := range x.pieces {
			if !p.safe {
				numbers = append(numbers, p.when)
			}
		}
	}
	slices.Sort(numbers)
	return numbers
}

func (m *model) durable(fate api.Fate) []api.Dir {
	numbers := m.pending()
	names := max(0, min(fate.Names, len(m.names)-1))
	return m.names[names].disk(func(p piece) bool {
		at := slices.Index(numbers, p.when)
		return p.safe || at < len(fate.Keep) && fate.Keep[at]
	})
}

func good(name string) bool {
	return name != "" && len(name) <= 30 && strings.Trim(name, "abcdefghijklmnopqrstuvwxyz0123456789._-") == ""
}

// named are the names that a call is passed.
func (o op) named() []string {
	switch o.call {
	case "SyncNames", "Dirs":
		return nil
	case "Mkdir", "Rmdir", "List":
		return []string{o.a}
	}
	return []string{o.a, o.b}
}

// wrong is the error of a call.
func (m *model) wrong(o op) api.Errno {
	dir, isDir := m.seen()[o.a]
	_, isFile := dir[o.b]
	is := func(calls string) bool { return slices.Contains(strings.Fields(calls), o.call) }
	switch {
	case m.down():
		return api.ErrPower
	case !slices.Equal(o.named(), slices.DeleteFunc(o.named(), func(s string) bool { return !good(s) })):
		return api.ErrPath
	case is("Create Write Sync Rename Remove Rmdir Read List") && !isDir:
		return api.ErrNone
	case is("Write Sync Remove Read") && !isFile:
		return api.ErrNone
	case is("Mkdir") && isDir, is("Create") && isFile:
		return api.ErrExist
	case is("Rmdir") && len(dir) > 0:
		return api.ErrBusy
	case is("Write") && o.data != "" && m.used()+len(o.data) > m.quota:
		return api.ErrQuota
	}
	return api.OK
}

// do makes a call of which nothing is wrong, and tells what else it returns.
func (m *model) do(o op) string {
	next := m.seen().copied()
	x := next[o.a][o.b]
	switch o.call {
	case "Read":
		return x.bytes(all)
	case "List":
		return strings.Join(slices.Sorted(maps.Keys(next[o.a])), "/")
	case "Dirs":
		return strings.Join(slices.Sorted(maps.Keys(next)), "/")
	case "Write":
		if o.data != "" {
			m.writes++
			x.pieces = append(x.pieces, piece{data: o.data, when: m.writes})
		}
	case "Sync":
		for i := range x.pieces {
			x.pieces[i].safe = true
		}
	case "SyncNames":
		m.names = []modelNames{next}
	default:
		m.rename(next, o)
	}
	m.steps++
	return ""
}

func (m *model) rename(next modelNames, o op) {
	switch o.call {
	case "Mkdir":
		next[o.a] = map[string]*modelFile{}
	case "Create":
		next[o.a][o.b] = m.newFile()
	case "Rename":
		files := next[o.a]
		delete(next, o.a)
		next[o.b] = files
	case "Remove":
		delete(next[o.a], o.b)
	case "Rmdir":
		delete(next, o.a)
	}
	m.names = append(m.names, next)
}

// pair is a file system with its model, and what was done to both.
type pair struct {
	f       *vfs.FS
	m       *model
	history []op
}

func newPair(t *testing.T, disk []api.Dir, quota, at int) *pair {
	t.Helper()
	return &pair{f: opened(t, disk, quota, at), m: newModel(disk, quota, at)}
}

func (p *pair) play(t *testing.T, o op) {
	t.Helper()
	p.history = append(p.history, o)
	want, result := p.m.wrong(o), ""
	if want == api.OK {
		result = p.m.do(o)
	}
	if s, e := o.on(p.f); e != want || s != result {
		t.Fatalf("%q, %v, want %q, %v, of the last of %v", s, e, result, want, p.history)
	}
}

// compare asks what takes no names.
func (p *pair) compare(t *testing.T) {
	t.Helper()
	if got, want := told(p.f.View()), told(p.m.view()); got != want {
		t.Fatalf("View %s, want %s, after %v", got, want, p.history)
	}
	if p.f.Used() != p.m.used() || p.f.Steps() != p.m.steps || p.f.Down() != p.m.down() {
		t.Fatalf("Used %d, Steps %d, Down %t, want %d, %d, %t, after %v", p.f.Used(), p.f.Steps(), p.f.Down(), p.m.used(), p.m.steps, p.m.down(), p.history)
	}
}

func (p *pair) compareDurable(t *testing.T, fate api.Fate) {
	t.Helper()
	if got, want := told(p.f.Durable(fate)), told(p.m.durable(fate)); got != want {
		t.Fatalf("Durable(%v) %s, want %s, after %v", fate, got, want, p.history)
	}
}

// compareFates asks Durable of all names and of all lists that are as long as the pending writes, one more or one less.
func (p *pair) compareFates(t *testing.T) {
	t.Helper()
	writes := len(p.m.pending())
	for names := -1; names <= len(p.m.names); names++ {
		for length := max(0, writes-1); length <= writes+1; length++ {
			for set := range 1 << length {
				keep := make([]bool, length)
				for i := range keep {
					keep[i] = set>>i&1 == 1
				}
				p.compareDurable(t, api.Fate{Names: names, Keep: keep})
			}
		}
	}
}

func opened(t *testing.T, disk []api.Dir, quota, at int) *vfs.FS {
	t.Helper()
	f, e := vfs.Open(disk, quota, at)
	if f == nil || e != api.OK {
		t.Fatalf("Open: %v, %v", f, e)
	}
	return f
}

func dir(name string, files ...api.File) api.Dir { return api.Dir{Name: name, Files: files} }

func file(name, data string) api.File { return api.File{Name: name, Data: []byte(data)} }

// histories goes over all lists of n of the calls.
func histories(calls []op, n int, yield func([]op)) {
	indices := make([]int, n)
	list := make([]op, n)
	for {
		for i, x := range indices {
			list[i] = calls[x]
		}
		yield(list)
		i := 0
		for ; i < n && indices[i] == len(calls)-1; i++ {
			indices[i] = 0
		}
		if i == n {
			return
		}
		indices[i]++
	}
}

// P8.2 to P8.5

// All short histories of two directories with a file each.
func TestAllShortHistories(t *testing.T) {
	calls := []op{
		{"Mkdir", "a", "", ""}, {"Mkdir", "b", "", ""}, {"Create", "a", "x", ""}, {"Create", "b", "x", ""},
		{"Write", "a", "x", "1"}, {"Write", "a", "x", "23"}, {"Write", "b", "x", "4"}, {"Write", "a", "x", ""},
		{"Sync", "a", "x", ""}, {"Sync", "b", "x", ""}, {"SyncNames", "", "", ""},
		{"Rename", "a", "b", ""}, {"Rename", "b", "a", ""}, {"Rename", "a", "a", ""},
		{"Remove", "a", "x", ""}, {"Remove", "b", "x", ""}, {"Rmdir", "a", "", ""}, {"Rmdir", "b", "", ""},
	}
	for _, disk := range [][]api.Dir{nil, {dir("a", file("x", "56"))}, {dir("a", file("x", "56")), dir("b", file("x", "7"))}} {
		histories(calls, 3, func(list []op) {
			p := newPair(t, disk, 7, -1)
			for _, o := range list {
				p.play(t, o)
			}
			p.compare(t)
			p.compareFates(t)
			p.compare(t)
		})
	}
}

// randomOp is a call with names of which most exist, and some are none.
func randomOp(r *rand.Rand) op {
	calls := strings.Fields("Mkdir Mkdir Create Create Create Write Write Write Write Write Write Write Write Sync SyncNames Rename Remove Rmdir Read List Dirs")
	dirs := strings.Fields("a a a a a a b b b ab .stage")
	files := strings.Fields("x x x x x x y y y x-1")
	o := op{call: calls[r.Intn(len(calls))], a: dirs[r.Intn(len(dirs))], b: files[r.Intn(len(files))]}
	switch o.call {
	case "Rename":
		o.b = dirs[r.Intn(len(dirs))]
	case "Write":
		data := make([]byte, r.Intn(4))
		r.Read(data)
		o.data = string(data)
	}
	switch r.Intn(60) {
	case 0:
		o.a = "A"
	case 1:
		o.b = ""
	}
	return o
}

func randomFate(r *rand.Rand, m *model) api.Fate {
	fate := api.Fate{Names: r.Intn(len(m.names) + 1), Keep: make([]bool, r.Intn(len(m.pending())+2))}
	for i := range fate.Keep {
		fate.Keep[i] = r.Intn(2) == 1
	}
	return fate
}

// Long histories, half of which end without power.
func TestLongHistories(t *testing.T) {
	for seed := range int64(600) {
		r := rand.New(rand.NewSource(seed))
		disk := [][]api.Dir{nil, {dir("a", file("x", "56"), file("y", "")), dir("b")}, {dir(".stage", file("x", "890")), dir("a"), dir("b", file("y", "7"))}}[seed%3]
		p := newPair(t, disk, r.Intn(90), r.Intn(160)-80)
		for range 100 {
			p.play(t, randomOp(r))
			p.compare(t)
			for range 3 {
				p.compareDurable(t, randomFate(r, p.m))
			}
			p.compareDurable(t, api.Fate{Names: 1000, Keep: slices.Repeat([]bool{true}, 200)})
			p.compareDurable(t, api.Fate{})
		}
	}
}
