package tokens_test

import (
	"bytes"
	"encoding/binary"
	"hash/crc32"
	"maps"
	"math/rand"
	"slices"
	"strconv"
	"strings"
	"testing"

	"satchel/api"
	"satchel/tokens"
)

// model is a table as the document tells it: the names by their numbers, and how many records there are.
type model struct {
	kind, version int
	count         int
	names         map[int]string
}

// bytes puts the table together, with a checksum that is not the program's.
func (m *model) bytes() []byte {
	var records [][]byte
	for id := range m.count {
		records = append(records, record(m.names[id]))
	}
	return build(m.kind, m.version, 42, records...)
}

// record is a record with its flag; that of no name is not in use.
func record(name string) []byte {
	b := make([]byte, 42)
	if name != "" {
		b[0], b[1] = 1, byte(len(name))
		copy(b[2:], name)
	}
	return b
}

// build is a record file with any header, and a right checksum.
func build(kind, version, size int, records ...[]byte) []byte {
	b := append([]byte("SREC"), byte(kind), byte(version))
	b = binary.BigEndian.AppendUint16(b, uint16(size))
	b = binary.BigEndian.AppendUint32(b, uint32(len(records)))
	b = binary.BigEndian.AppendUint32(b, crc32.ChecksumIEEE(b))
	return append(b, slices.Concat(records...)...)
}

// isName is the document's valid name.
func isName(s string) bool {
	const letters = "_abcdefghijklmnopqrstuvwxyzABCDEFGHIJKLMNOPQRSTUVWXYZ"
	return 0 < len(s) && len(s) < 41 && strings.Trim(s, letters+"0123456789") == "" && strings.Contains(letters, s[:1])
}

func (m *model) find(name string) (int, bool) {
	for id, s := range m.names {
		if s == name {
			return id, true
		}
	}
	return 0, false
}

// op is a call that changes a table, unless something is wrong with it.
type op struct {
	call string
	id   int
	name string
}

func (o op) String() string {
	return o.call + "(" + strconv.Itoa(o.id) + " " + strconv.Quote(o.name) + ")"
}

func intern(name string) op {
	return op{call: "Intern", name: name}
}

func forget(id int) op {
	return op{call: "Forget", id: id}
}

func (o op) on(x *tokens.Table) (int, api.Errno) {
	if o.call == "Intern" {
		return x.Intern(o.name)
	}
	return 0, x.Forget(o.id)
}

func (m *model) do(o op) (int, api.Errno) {
	if o.call == "Intern" {
		return m.intern(o.name)
	}
	if _, found := m.names[o.id]; !found {
		return 0, api.ErrId
	}
	delete(m.names, o.id)
	return 0, api.OK
}

func (m *model) intern(name string) (int, api.Errno) {
	if !isName(name) {
		return 0, api.ErrName
	}
	if id, found := m.find(name); found {
		return id, api.OK
	}
	if len(m.names) == 200 {
		return 0, api.ErrTokens
	}
	id := 0
	for m.names[id] != "" {
		id++
	}
	m.names[id] = name
	m.count = max(m.count, id+1)
	return id, api.OK
}

// pair is a table with its model, and what was done to both.
type pair struct {
	x       *tokens.Table
	m       *model
	history []op
}

func made(t *testing.T, kind, version int) *tokens.Table {
	t.Helper()
	x, e := tokens.New(kind, version)
	if x == nil || e != api.OK {
		t.Fatalf("New(%d, %d): %v, %v", kind, version, x, e)
	}
	return x
}

func opened(t *testing.T, b []byte, kind, version int) *tokens.Table {
	t.Helper()
	x, e := tokens.Open(b, kind, version)
	if x == nil || e != api.OK {
		t.Fatalf("Open of %d bytes, %d, %d: %v, %v", len(b), kind, version, x, e)
	}
	return x
}

func newPair(t *testing.T, kind, version int) *pair {
	t.Helper()
	return &pair{x: made(t, kind, version), m: &model{kind: kind, version: version, names: map[int]string{}}}
}

func (p *pair) play(t *testing.T, list ...op) {
	t.Helper()
	for _, o := range list {
		p.history = append(p.history, o)
		want, wrong := p.m.do(o)
		if id, e := o.on(p.x); id != want || e != wrong {
			t.Fatalf("%d, %v, want %d, %v, of the last of %v", id, e, want, wrong, p.history)
		}
	}
}

// reopen goes on with a table of the same bytes, as it may keep other things about them.
func (p *pair) reopen(t *testing.T) {
	t.Helper()
	p.history = append(p.history, op{call: "reopened"})
	p.x = opened(t, p.x.Bytes(), p.m.kind, p.m.version)
}

// compare asks everything of the table; some of the names asked for are not in it.
func (p *pair) compare(t *testing.T, asked ...string) {
	t.Helper()
	if p.x.Len() != len(p.m.names) {
		t.Fatalf("Len = %d, want %d, after %v", p.x.Len(), len(p.m.names), p.history)
	}
	for _, name := range append(slices.Collect(maps.Values(p.m.names)), asked...) {
		want, there := p.m.find(name)
		if id, found := p.x.Find(name); id != want || found != there {
			t.Fatalf("Find(%q) = %d, %t, want %d, %t, after %v", name, id, found, want, there, p.history)
		}
	}
	for id := -2; id < p.m.count+3; id++ {
		want, there := p.m.names[id]
		if name, found := p.x.Name(id); name != want || found != there {
			t.Fatalf("Name(%d) = %q, %t, want %q, %t, after %v", id, name, found, want, there, p.history)
		}
	}
	if got, want := p.x.Bytes(), p.m.bytes(); !bytes.Equal(got, want) {
		t.Fatalf("Bytes = %q, want %q, after %v", got, want, p.history)
	}
	if got, want := collect(p.x), p.m.all(); !slices.Equal(got, want) {
		t.Fatalf("All = %v, want %v, after %v", got, want, p.history)
	}
}

// entry is what All yields at a step.
type entry struct {
	id   int
	name string
}

func collect(x *tokens.Table) []entry {
	var all []entry
	for id, name := range x.All() {
		all = append(all, entry{id, name})
	}
	return all
}

func (m *model) all() []entry {
	var all []entry
	for _, id := range slices.Sorted(maps.Keys(m.names)) {
		all = append(all, entry{id, m.names[id]})
	}
	return all
}

// histories goes over all lists of n of the calls.
func histories(calls []op, n int, yield func([]op)) {
	if n == 0 {
		yield(nil)
		return
	}
	histories(calls, n-1, func(list []op) {
		for _, o := range calls {
			yield(append(slices.Clip(list), o))
		}
	})
}

// P11.3, P11.4, P11.5

func TestAllShortHistories(t *testing.T) {
	calls := []op{intern("a"), intern("b"), intern("ab"), intern("7"), forget(0), forget(1), forget(2), forget(-1)}
	for n := range 6 {
		histories(calls, n, func(list []op) {
			p := newPair(t, 2, 1)
			p.play(t, list...)
			p.compare(t, "a", "b", "ab", "7", "")
			p.reopen(t)
			p.compare(t, "a", "b", "ab", "7", "")
			p.play(t, intern("new"), intern("newer"))
			p.compare(t, "a")
		})
	}
}

func randomName(r *rand.Rand) string {
	switch r.Intn(20) {
	case 0:
		return strings.Repeat("x", r.Intn(45))
	case 1:
		return []string{"", "0", "9a", "a b", "é", "a\x00", "\x00", "a-", "A\n"}[r.Intn(9)]
	}
	return "n" + strconv.Itoa(r.Intn(230))
}

// Long histories of tables that grow full and get room again, some of which are opened anew now and then.
func TestLongHistories(t *testing.T) {
	for seed := range int64(40) {
		r := rand.New(rand.NewSource(seed))
		p := newPair(t, 1+r.Intn(3), 1+r.Intn(2))
		names := 2 + r.Intn(7)
		for i := range 1500 {
			if r.Intn(10) < names {
				p.play(t, intern(randomName(r)))
			} else {
				p.play(t, forget(r.Intn(p.m.count+2)-1))
			}
			if i%50 == 0 {
				p.compare(t, randomName(r), randomName(r))
			}
			if r.Intn(100) == 0 {
				p.reopen(t)
			}
		}
		p.compare(t)
	}
}
