package recfile_test

import (
	"bytes"
	"encoding/binary"
	"hash/crc32"
	"math/rand"
	"slices"
	"strconv"
	"testing"

	"satchel/api"
	"satchel/recfile"
)

// model is a file as the document tells it: the contents of the records in use by their ids.
type model struct {
	kind, version, size int
	count               int
	contents            map[int][]byte
}

// bytes puts the file together from its parts, with a checksum that is not the program's.
func (m *model) bytes() []byte {
	b := slices.Concat([]byte("SREC"), []byte{byte(m.kind), byte(m.version)}, binary.BigEndian.AppendUint16(nil, uint16(m.size)))
	b = binary.BigEndian.AppendUint32(b, uint32(m.count))
	b = binary.BigEndian.AppendUint32(b, crc32.ChecksumIEEE(b))
	for id := range m.count {
		if c, found := m.contents[id]; found {
			b = append(append(b, 1), c...)
		} else {
			b = append(b, make([]byte, m.size)...)
		}
	}
	return b
}

// next is the least id of a record in use that is greater than last, or -1.
func (m *model) next(last int) int {
	next := -1
	for id := range m.contents {
		if id > last && (next < 0 || id < next) {
			next = id
		}
	}
	return next
}

// op is a call that changes a file, unless something is wrong with it.
type op struct {
	call string
	id   int
	data string
}

func (o op) String() string {
	return o.call + "(" + strconv.Itoa(o.id) + " " + strconv.Quote(o.data) + ")"
}

func (o op) on(f *recfile.File) (int, api.Errno) {
	switch o.call {
	case "Put":
		return 0, f.Put(o.id, []byte(o.data))
	case "Alloc":
		return f.Alloc()
	case "Free":
		return 0, f.Free(o.id)
	}
	panic("no call " + o.call)
}

func (m *model) do(o op) (int, api.Errno) {
	_, found := m.contents[o.id]
	switch {
	case o.call == "Alloc":
		return m.alloc()
	case o.call == "Free" && !found:
		return 0, api.ErrId
	case o.call == "Free":
		delete(m.contents, o.id)
	case o.id < 0 || o.id > 65535:
		return 0, api.ErrId
	case len(o.data) != m.size-1:
		return 0, api.ErrSize
	default:
		m.contents[o.id] = []byte(o.data)
		m.count = max(m.count, o.id+1)
	}
	return 0, api.OK
}

func (m *model) alloc() (int, api.Errno) {
	for id := range 65536 {
		if _, found := m.contents[id]; !found {
			m.contents[id] = make([]byte, m.size-1)
			m.count = max(m.count, id+1)
			return id, api.OK
		}
	}
	return 0, api.ErrFull
}

// pair is a file with its model, and what was done to both.
type pair struct {
	f       *recfile.File
	m       *model
	history []op
}

func made(t *testing.T, kind, version, size int) *recfile.File {
	t.Helper()
	f, e := recfile.New(kind, version, size)
	if f == nil || e != api.OK {
		t.Fatalf("New(%d, %d, %d): %v, %v", kind, version, size, f, e)
	}
	return f
}

func opened(t *testing.T, b []byte) *recfile.File {
	t.Helper()
	f, e := recfile.Open(b)
	if f == nil || e != api.OK {
		t.Fatalf("Open of %d bytes: %v, %v", len(b), f, e)
	}
	return f
}

func newPair(t *testing.T, kind, version, size int) *pair {
	t.Helper()
	return &pair{f: made(t, kind, version, size), m: &model{kind: kind, version: version, size: size, contents: map[int][]byte{}}}
}

func (p *pair) play(t *testing.T, o op) {
	t.Helper()
	p.history = append(p.history, o)
	want, wrong := p.m.do(o)
	if id, e := o.on(p.f); id != want || e != wrong {
		t.Fatalf("%d, %v, want %d, %v, of the last of %v", id, e, want, wrong, p.history)
	}
}

// compare asks everything of the file but its iterator.
func (p *pair) compare(t *testing.T) {
	t.Helper()
	f, m := p.f, p.m
	if f.Kind() != m.kind || f.Version() != m.version || f.Size() != m.size || f.Count() != m.count || f.Live() != len(m.contents) {
		t.Fatalf("Kind %d, Version %d, Size %d, Count %d, Live %d, want %d, %d, %d, %d, %d, after %v", f.Kind(), f.Version(), f.Size(), f.Count(), f.Live(), m.kind, m.version, m.size, m.count, len(m.contents), p.history)
	}
	for id := -2; id < m.count+3; id++ {
		want, found := m.contents[id]
		c, e := f.Get(id)
		if found != (e == api.OK) || !found && e != api.ErrId || !bytes.Equal(c, want) {
			t.Fatalf("Get(%d) = %v, %v, want %v, %t, after %v", id, c, e, want, found, p.history)
		}
	}
	if got, want := f.Bytes(), m.bytes(); !bytes.Equal(got, want) {
		t.Fatalf("Bytes = %v, want %v, after %v", got, want, p.history)
	}
}

// compareAll goes over all records, and plays what the body of the loop is to do at each step; -1 steps are all.
func (p *pair) compareAll(t *testing.T, steps int, body func(step int)) {
	t.Helper()
	last, step := -1, 0
	for id, c := range p.f.All() {
		want := p.m.next(last)
		if id != want || !bytes.Equal(c, p.m.contents[want]) {
			t.Fatalf("step %d of All: %d, %v, want %d, %v, after %v", step, id, c, want, p.m.contents[want], p.history)
		}
		if body != nil {
			body(step)
		}
		last = id
		if step++; step == steps {
			return
		}
	}
	if want := p.m.next(last); want != -1 {
		t.Fatalf("All ends after %d, want %d, after %v", last, want, p.history)
	}
}

// reopen goes on with a file of the same bytes, as it may keep other things about them.
func (p *pair) reopen(t *testing.T) {
	t.Helper()
	p.history = append(p.history, op{call: "reopened"})
	p.f = opened(t, p.f.Bytes())
}

// histories goes over all lists of n of the calls.
func histories(calls []op, n int, yield func([]op)) {
	if n == 0 {
		yield(nil)
		return
	}
	histories(calls, n-1, func(list []op) {
		for _, o := range calls {
			yield(append(slices.Clip(list), o))
		}
	})
}

// P9.3, P9.4, P9.5, P9.6

// All short histories of records of two bytes.
func TestAllShortHistories(t *testing.T) {
	calls := []op{
		{"Put", 0, "a"}, {"Put", 1, "b"}, {"Put", 1, "\x00"}, {"Put", 3, "c"},
		{"Alloc", 0, ""}, {"Free", 0, ""}, {"Free", 1, ""}, {"Free", 3, ""},
		{"Put", -1, "d"}, {"Put", 65536, "e"}, {"Put", 0, "fg"}, {"Put", 2, ""},
	}
	for n := range 5 {
		histories(calls, n, func(list []op) {
			p := newPair(t, 5, 1, 2)
			for _, o := range list {
				p.play(t, o)
			}
			p.compare(t)
			p.compareAll(t, -1, nil)
			p.reopen(t)
			p.compare(t)
			p.play(t, op{call: "Alloc"})
			p.compare(t)
		})
	}
}

func randomOp(r *rand.Rand, m *model) op {
	o := op{call: []string{"Put", "Alloc", "Free", "Free"}[r.Intn(4)], id: r.Intn(m.count + 2)}
	if o.call == "Put" {
		data := make([]byte, m.size-1)
		r.Read(data)
		o.data = string(data)
	}
	switch r.Intn(40) {
	case 0:
		o.id = []int{-1, -1 << 63, 65536, 1<<63 - 1}[r.Intn(4)]
	case 1:
		o.data += "more"
	case 2:
		o.data = ""
	}
	return o
}

// Long histories of files of several sizes, some of which are opened anew now and then.
func TestLongHistories(t *testing.T) {
	for seed := range int64(200) {
		r := rand.New(rand.NewSource(seed))
		p := newPair(t, r.Intn(256), r.Intn(256), []int{2, 3, 32, 255}[seed%4])
		for i := range 100 {
			p.play(t, randomOp(r, p.m))
			if i%10 == 0 {
				p.compare(t)
				p.compareAll(t, r.Intn(5), nil)
			}
			if r.Intn(20) == 0 {
				p.reopen(t)
			}
		}
		p.compare(t)
		p.compareAll(t, -1, nil)
	}
}

// P9.5

// Files that change at each step of an iteration.
func TestAllOfAChangingFile(t *testing.T) {
	for seed := range int64(3000) {
		r := rand.New(rand.NewSource(seed))
		p := newPair(t, 1, 2, 2)
		for range r.Intn(8) {
			p.play(t, op{"Put", r.Intn(10), string([]byte{byte(r.Intn(4))})})
		}
		for range 2 {
			p.compareAll(t, r.Intn(12)-1, func(step int) {
				for i := r.Intn(4); i > 0 && step < 60; i-- {
					p.play(t, randomOp(r, p.m))
				}
				if step >= 60 {
					t.Fatalf("All goes on and on, after %v", p.history)
				}
			})
		}
		p.compare(t)
	}
}
