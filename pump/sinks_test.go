package pump_test

import (
	"bytes"
	"math"
	"slices"
	"testing"

	"satchel/api"
	"satchel/pump"
)

// wantBucket asks for what a bucket has.
func wantBucket(t *testing.T, b *pump.Bucket, want []byte, n int) {
	t.Helper()
	if got := b.Bytes(); !bytes.Equal(got, want) || b.Count() != n {
		t.Fatalf("the bucket has %v in %d chunks, want %v in %d", got, b.Count(), want, n)
	}
}

// P27.1: each room, and all short sequences of chunks.
func TestBuckets(t *testing.T) {
	for room := -2; room <= 7; room++ {
		for code := range 5 * 5 * 5 * 5 {
			b := pump.NewBucket(room)
			var want []byte
			n := 0
			wantBucket(t, b, nil, 0)
			for range 4 {
				chunk := count(10*n, code%5)
				code /= 5
				e := b.Take(chunk)
				if len(want)+len(chunk) <= max(room, 0) {
					want = append(want, chunk...)
					n++
					if e != api.OK {
						t.Fatalf("room %d: Take(%v) = %v", room, chunk, e)
					}
				} else if e != api.ErrQuota {
					t.Fatalf("room %d: Take(%v) = %v", room, chunk, e)
				}
				wantBucket(t, b, want, n)
			}
		}
	}
}

// P27.1
func TestRoomsAtTheEdges(t *testing.T) {
	for _, c := range []struct {
		room int
		want api.Errno
	}{{math.MinInt, api.ErrQuota}, {-1, api.ErrQuota}, {0, api.ErrQuota}, {999, api.ErrQuota}, {1000, api.OK}, {math.MaxInt, api.OK}} {
		b := pump.NewBucket(c.room)
		for _, empty := range [][]byte{nil, {}} {
			if e := b.Take(empty); e != api.OK {
				t.Errorf("room %d: %v for an empty chunk", c.room, e)
			}
		}
		if e := b.Take(make([]byte, 1000)); e != c.want || c.want == api.OK && b.Count() != 3 || c.want != api.OK && b.Count() != 2 {
			t.Errorf("room %d: %v, %d chunks", c.room, e, b.Count())
		}
	}
}

// P27.1, P27.5: what goes in and what comes out stays apart from what the bucket has.
func TestBucketMemory(t *testing.T) {
	b, other := pump.NewBucket(9), pump.NewBucket(9)
	backing := count(1, 5)
	for range 2 {
		if e := b.Take(backing[:2]); e != api.OK || !bytes.Equal(backing, count(1, 5)) {
			t.Fatalf("Take = %v, and what was passed is %v", e, backing)
		}
	}
	clear(backing)
	want := []byte{1, 2, 1, 2}
	wantBucket(t, b, want, 2)
	for range 2 {
		got := b.Bytes()
		clear(got[:cap(got)])
		wantBucket(t, b, want, 2)
	}
	before := b.Bytes()
	if e := b.Take([]byte{7}); e != api.OK || !bytes.Equal(before, want) {
		t.Errorf("Take = %v, and Bytes from before is %v", e, before)
	}
	for range 2 {
		got := b.Bytes()
		for i := range got[:cap(got)] {
			got[:cap(got)][i] = 77
		}
		if e := b.Take([]byte{8}); e != api.OK {
			t.Errorf("Take = %v", e)
		}
	}
	wantBucket(t, b, []byte{1, 2, 1, 2, 7, 8, 8}, 5)
	wantBucket(t, other, nil, 0)
}

// P27.3, P27.5: each piece of each iteration is in memory of its own, spare capacity included.
func TestChunksMemory(t *testing.T) {
	data := count(1, 7)
	seq := pump.Chunks(data, 3)
	var pieces [][]byte
	for range 2 {
		for piece := range seq {
			pieces = append(pieces, piece)
		}
	}
	for i, piece := range pieces {
		room := piece[:cap(piece)]
		for k := range room {
			room[k] = byte(100 + i)
		}
	}
	for i, piece := range pieces {
		for _, b := range piece[:cap(piece)] {
			if b != byte(100+i) {
				t.Errorf("piece %d shares memory: %v", i, piece)
			}
		}
	}
	if got := slices.Collect(seq); !same(got, cut(count(1, 7), 3)) || !bytes.Equal(data, count(1, 7)) {
		t.Errorf("the pieces are %v now, and the data %v", got, data)
	}
	backing := count(1, 9)
	for piece := range pump.Chunks(backing[:4], 3) {
		room := piece[:cap(piece)]
		clear(room)
	}
	if !bytes.Equal(backing, count(1, 9)) {
		t.Errorf("the data is %v", backing)
	}
}

// listener is a sink that tells a list what it is asked, and has its own answer to the chunk 2.
type listener struct {
	answer api.Errno
	name   string
	list   *[]string
}

func (l listener) Take(chunk []byte) api.Errno {
	*l.list = append(*l.list, l.name+string(chunk))
	if string(chunk) == "2" {
		return l.answer
	}
	return api.OK
}

// P27.2: up to three sinks, of which each may refuse the second chunk.
func TestTee(t *testing.T) {
	errors := []api.Errno{api.OK, api.ErrQuota, api.ErrBusy, -7}
	for number := range 4 {
		for code := range 64 {
			var list, want []string
			var sinks []pump.Sink
			e := api.OK
			for i := range number {
				wrong := errors[code>>(2*i)&3]
				name := string(rune('a' + i))
				sinks = append(sinks, listener{wrong, name, &list})
				if e == api.OK {
					want, e = append(want, name+"2"), wrong
				}
			}
			both := pump.Tee(sinks...)
			if f := both.Take([]byte("1")); f != api.OK || len(list) != number {
				t.Fatalf("%d sinks: %v for the first chunk, asked %v", number, f, list)
			}
			list = nil
			if f := both.Take([]byte("2")); f != e || !slices.Equal(list, want) {
				t.Fatalf("%d sinks: %v for the second chunk, asked %v, want %v, %v", number, f, list, e, want)
			}
			list = nil
			if f := both.Take(nil); f != api.OK || len(list) != number {
				t.Fatalf("%d sinks: %v for the third chunk, asked %v", number, f, list)
			}
		}
	}
}

// P27.2, rule 5: a Tee keeps its sinks, but not the list of them.
func TestTeeOfAList(t *testing.T) {
	a, b := pump.NewBucket(9), pump.NewBucket(9)
	sinks := []pump.Sink{a, b, pump.Tee()}
	both := pump.Tee(sinks[:2]...)
	sinks[0], sinks[1] = refuser(0, api.ErrBusy), refuser(0, api.ErrBusy)
	for range 2 {
		if e := both.Take([]byte{1, 2}); e != api.OK {
			t.Errorf("Take = %v", e)
		}
	}
	wantBucket(t, a, []byte{1, 2, 1, 2}, 2)
	wantBucket(t, b, []byte{1, 2, 1, 2}, 2)
}

// P27.2: a Tee in another one, and one sink twice.
func TestTeeOfTees(t *testing.T) {
	a, b := pump.NewBucket(9), pump.NewBucket(5)
	both := pump.Tee(pump.Tee(), pump.Tee(a, a), pump.Tee(b))
	if n, e := pump.Copy(pump.Chunks(count(1, 9), 2), both); n != 2 || e != api.ErrQuota {
		t.Errorf("Copy = %d, %v", n, e)
	}
	wantBucket(t, a, []byte{1, 2, 1, 2, 3, 4, 3, 4}, 4)
	wantBucket(t, b, count(1, 4), 2)
}

// P27.2, P27.4
func TestTeeOfNone(t *testing.T) {
	for _, chunk := range [][]byte{nil, {}, {1}, make([]byte, 1<<20)} {
		if e := pump.Tee().Take(chunk); e != api.OK {
			t.Errorf("Take of %d bytes = %v", len(chunk), e)
		}
	}
	if n, e := pump.Copy(pump.Chunks(count(1, 9), 1), pump.Tee()); n != 9 || e != api.OK {
		t.Errorf("Copy = %d, %v", n, e)
	}
}
