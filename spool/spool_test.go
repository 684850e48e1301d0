package spool_test

import (
	"bytes"
	"slices"
	"testing"

	"satchel/spool"
)

// smudge overwrites a slice and its spare capacity.
func smudge(b []byte) {
	b = b[:cap(b)]
	for i := range b {
		b[i] ^= 0xff
	}
}

// roomy gives a copy of a list with spare capacity.
func roomy[T any](list []T) []T {
	all := make([]T, len(list)+9)
	copy(all, list)
	return all[:len(list)]
}

// model is a spool as the document tells it: the bytes of New, and all writes since.
type model struct {
	first  []byte
	writes [][]byte
	synced int // how many of the writes came before the last Sync
}

func (m *model) seen() []byte {
	return slices.Concat(m.first, bytes.Join(m.writes, nil))
}

func (m *model) safe() []byte {
	return slices.Concat(m.first, bytes.Join(m.writes[:m.synced], nil))
}

// after puts each byte at its position, one by one.
func (m *model) after(keep []bool) []byte {
	at := map[int]byte{}
	for i, c := range m.safe() {
		at[i] = c
	}
	end := len(m.safe())
	place := end
	for i, w := range m.writes[m.synced:] {
		for _, c := range w {
			if i < len(keep) && keep[i] {
				at[place] = c
				end = place + 1
			}
			place++
		}
	}
	left := make([]byte, end)
	for i := range left {
		left[i] = at[i]
	}
	return left
}

func wantBytes(t *testing.T, what string, got, want []byte) {
	t.Helper()
	if !bytes.Equal(got, want) {
		t.Errorf("%s: %v, want %v", what, got, want)
	}
}

// wantModel asks everything of a spool but After.
func wantModel(t *testing.T, s *spool.Spool, m *model) {
	t.Helper()
	wantBytes(t, "Seen", s.Seen(), m.seen())
	wantBytes(t, "Safe", s.Safe(), m.safe())
	if s.Size() != len(m.seen()) || s.Pending() != len(m.writes)-m.synced {
		t.Errorf("Size %d, Pending %d, want %d, %d", s.Size(), s.Pending(), len(m.seen()), len(m.writes)-m.synced)
	}
}

// keeps are all lists of up to n bools.
func keeps(n int) [][]bool {
	all := [][]bool{nil}
	for length := 1; length <= n; length++ {
		for set := range 1 << length {
			keep := make([]bool, length)
			for i := range keep {
				keep[i] = set>>i&1 == 1
			}
			all = append(all, keep)
		}
	}
	return all
}

// wantAfters asks After of all lists, some longer than there are writes.
func wantAfters(t *testing.T, s *spool.Spool, m *model) {
	t.Helper()
	for _, keep := range keeps(len(m.writes) - m.synced + 2) {
		got, want := s.After(keep), m.after(keep)
		if !bytes.Equal(got, want) {
			t.Errorf("After(%v) = %v, want %v", keep, got, want)
		}
	}
}

// step does one of the four things that change a spool, or doesn't: an Append of up to two bytes, or a Sync.
func step(s *spool.Spool, m *model, kind int, next byte) {
	switch kind {
	case 0:
		s.Append(nil)
	case 3:
		s.Sync()
		m.synced = len(m.writes)
	default:
		b := []byte{next, next + 1}[:kind]
		s.Append(b)
		m.writes = append(m.writes, b)
	}
}

// P7.1 and P7.2

func TestAllShortHistories(t *testing.T) {
	const steps, kinds = 5, 4
	for first := range 3 {
		for history := range 1 << (2 * steps) {
			m := &model{first: []byte{201, 202}[:first]}
			s := spool.New(m.first)
			for i := range steps {
				step(s, m, history>>(2*i)%kinds, byte(10*i+1))
			}
			wantModel(t, s, m)
			wantAfters(t, s, m)
			wantModel(t, s, m)
			if t.Failed() {
				t.Fatalf("New of %d bytes, then the steps %b (two bits each, the first the lowest)", first, history)
			}
		}
	}
}

func TestExamples(t *testing.T) {
	s := spool.New([]byte{1, 2})
	s.Append([]byte{3, 4})
	s.Append([]byte{5})
	wantBytes(t, "Seen", s.Seen(), []byte{1, 2, 3, 4, 5})
	wantBytes(t, "Safe", s.Safe(), []byte{1, 2})
	wantBytes(t, "the second kept", s.After([]bool{false, true}), []byte{1, 2, 0, 0, 5})
	wantBytes(t, "the first kept", s.After([]bool{true}), []byte{1, 2, 3, 4})
	wantBytes(t, "none kept", s.After(nil), []byte{1, 2})
	s.Sync()
	s.Append([]byte{6})
	wantBytes(t, "none kept behind Sync", s.After(nil), []byte{1, 2, 3, 4, 5})
	wantBytes(t, "one kept behind Sync", s.After([]bool{true}), []byte{1, 2, 3, 4, 5, 6})
}

// P7.1

func TestNewIsSafe(t *testing.T) {
	for _, b := range [][]byte{nil, {}, {0}, {7, 0, 255, 0}} {
		s := spool.New(b)
		wantModel(t, s, &model{first: b})
		wantBytes(t, "After", s.After([]bool{true, true}), b)
	}
}

func TestEmptyAppendIsNoWrite(t *testing.T) {
	s := spool.New([]byte{1})
	for _, b := range [][]byte{nil, {}, make([]byte, 0, 5)} {
		s.Append(b)
	}
	wantModel(t, s, &model{first: []byte{1}})
	s.Append([]byte{2})
	s.Append(nil)
	s.Append([]byte{3})
	wantModel(t, s, &model{first: []byte{1}, writes: [][]byte{{2}, {3}}})
	wantBytes(t, "the second write kept", s.After([]bool{false, true}), []byte{1, 0, 3})
}

// A byte 0 that is written counts as any other.
func TestZeroBytes(t *testing.T) {
	m := &model{first: []byte{0}, writes: [][]byte{{0, 0}, {9}, {0}, {0, 0, 0}}}
	s := spool.New(m.first)
	for _, w := range m.writes {
		s.Append(w)
	}
	wantModel(t, s, m)
	wantAfters(t, s, m)
	s.Sync()
	m.synced = 4
	wantModel(t, s, m)
	wantAfters(t, s, m)
}

func TestSyncTwice(t *testing.T) {
	m := &model{first: []byte{1}, writes: [][]byte{{2}}, synced: 1}
	s := spool.New(m.first)
	s.Append([]byte{2})
	s.Sync()
	s.Sync()
	wantModel(t, s, m)
	wantAfters(t, s, m)
}

func TestSpoolsAreIndependent(t *testing.T) {
	first := []byte{1, 2}
	a, b := spool.New(first), spool.New(first)
	a.Append([]byte{3})
	b.Append([]byte{4, 5})
	b.Append([]byte{6})
	a.Sync()
	wantModel(t, a, &model{first: first, writes: [][]byte{{3}}, synced: 1})
	wantModel(t, b, &model{first: first, writes: [][]byte{{4, 5}, {6}}})
	wantModel(t, spool.New(nil), &model{})
}

// P7.2

// Many writes of several lengths, of which far more are lost than kept.
func TestManyWrites(t *testing.T) {
	m := &model{first: bytes.Repeat([]byte{200}, 40)}
	s := spool.New(m.first)
	for i := range 3000 {
		w := bytes.Repeat([]byte{byte(i%250 + 1)}, i%7+1)
		s.Append(w)
		m.writes = append(m.writes, w)
	}
	wantModel(t, s, m)
	for _, gap := range []int{1, 2, 3, 64, 700} {
		for shift := range 3 {
			keep := make([]bool, 2999+shift)
			for i := shift; i < len(keep); i += gap {
				keep[i] = true
			}
			wantBytes(t, "After", s.After(keep), m.after(keep))
		}
	}
}

// A keep that is longer than the writes, whose further elements are true, names no write.
func TestLongKeep(t *testing.T) {
	s := spool.New([]byte{1})
	keep := make([]bool, 70)
	for i := 1; i < len(keep); i++ {
		keep[i] = true
	}
	wantBytes(t, "no write", s.After(keep), []byte{1})
	s.Append([]byte{2})
	wantBytes(t, "one write, lost", s.After(keep), []byte{1})
	s.Append([]byte{3})
	wantBytes(t, "two writes", s.After(keep), []byte{1, 0, 3})
	wantModel(t, s, &model{first: []byte{1}, writes: [][]byte{{2}, {3}}})
}

// P7.1 and P7.3: what is passed

func TestArgumentsAreCopied(t *testing.T) {
	m := &model{first: []byte{1, 2, 3}, writes: [][]byte{{4, 5}, {6}}}
	first, a, b := roomy(m.first), roomy(m.writes[0]), roomy(m.writes[1])
	s := spool.New(first)
	s.Append(a)
	s.Append(b)
	for i, arg := range [][]byte{first, a, b} {
		want := make([]byte, cap(arg))
		copy(want, [][]byte{m.first, m.writes[0], m.writes[1]}[i])
		wantBytes(t, "an argument, with its spare capacity", arg[:cap(arg)], want)
		smudge(arg)
	}
	wantModel(t, s, m)
	wantAfters(t, s, m)
}

func TestAfterLeavesKeep(t *testing.T) {
	s := spool.New(nil)
	for i := range 4 {
		s.Append([]byte{byte(i + 1)})
	}
	keep := roomy([]bool{true, false, true})
	want := slices.Clone(keep[:cap(keep)])
	wantBytes(t, "After", s.After(keep), []byte{1, 0, 3})
	if !slices.Equal(keep[:cap(keep)], want) {
		t.Errorf("keep became %v", keep[:cap(keep)])
	}
	for i := range keep {
		keep[i] = !keep[i]
	}
	wantBytes(t, "After of nothing", s.After(nil), nil)
}

// P7.3

// results are slices that a spool returns, each twice.
func results(s *spool.Spool) [][]byte {
	var all [][]byte
	for range 2 {
		all = append(all, s.Seen(), s.Safe(), s.After(nil), s.After([]bool{true}), s.After([]bool{false, true}), s.After([]bool{true, true}))
	}
	return all
}

// copies are the same bytes, surely in other memory.
func copies(all [][]byte) []string {
	var c []string
	for _, b := range all {
		c = append(c, string(b))
	}
	return c
}

func TestResultsAreNewMemory(t *testing.T) {
	m := &model{first: []byte{1, 2}}
	s := spool.New(m.first)
	for i := range 40 {
		if i%9 == 8 {
			s.Sync()
			m.synced = len(m.writes)
		}
		all := results(s)
		want := copies(all)
		for j := range all {
			smudge(all[j])
			for k := j + 1; k < len(all); k++ {
				wantBytes(t, "another result", all[k], []byte(want[k]))
			}
			wantModel(t, s, m)
		}
		w := bytes.Repeat([]byte{byte(i + 3)}, i%4+1)
		s.Append(w)
		m.writes = append(m.writes, w)
		wantModel(t, s, m)
	}
}

// A result stays as it was while its spool goes on.
func TestResultsStay(t *testing.T) {
	s := spool.New([]byte{1})
	s.Append([]byte{2})
	all := results(s)
	want := copies(all)
	for i := range 100 {
		s.Append([]byte{byte(i)})
		if i%10 == 0 {
			s.Sync()
		}
	}
	for i := range all {
		wantBytes(t, "an old result", all[i], []byte(want[i]))
	}
}
