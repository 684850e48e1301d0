package pump_test

import (
	"bytes"
	"iter"
	"math"
	"slices"
	"sync/atomic"
	"testing"
	"testing/synctest"
	"time"

	"satchel/api"
	"satchel/pump"
)

// count gives the bytes from first on.
func count(first, n int) []byte {
	b := []byte{}
	for i := range n {
		b = append(b, byte(first+i))
	}
	return b
}

// cut is the model of Chunks.
func cut(data []byte, size int) [][]byte {
	if len(data) == 0 {
		return nil
	}
	if size < 1 || size > len(data) {
		size = len(data)
	}
	return append([][]byte{data[:size]}, cut(data[size:], size)...)
}

func same(a, b [][]byte) bool {
	return slices.EqualFunc(a, b, bytes.Equal)
}

// script is a sink that answers each chunk with what it was told, and keeps what it is handed.
type script struct {
	answers []api.Errno // behind the last one: OK
	asked   [][]byte
}

func (s *script) Take(chunk []byte) api.Errno {
	i := len(s.asked)
	s.asked = append(s.asked, bytes.Clone(chunk))
	if i < len(s.answers) {
		return s.answers[i]
	}
	return api.OK
}

// refuser is a sink that refuses the chunk of a number.
func refuser(at int, e api.Errno) *script {
	return &script{answers: append(make([]api.Errno, at), e)}
}

// source goes over chunks, and keeps how often it was begun, how many chunks it has yielded and whether it has ended.
type source struct {
	chunks  [][]byte
	begun   int
	yielded atomic.Int64
	ended   bool
}

func (s *source) all() iter.Seq[[]byte] {
	return func(yield func([]byte) bool) {
		s.begun++
		defer func() { s.ended = true }()
		for _, chunk := range s.chunks {
			s.yielded.Add(1)
			if !yield(chunk) {
				return
			}
		}
	}
}

// P27.4
func TestExample(t *testing.T) {
	for _, c := range []struct {
		room, n int
		e       api.Errno
		want    []byte
	}{{4, 2, api.ErrQuota, count(1, 4)}, {5, 3, api.OK, count(1, 5)}} {
		b := pump.NewBucket(c.room)
		if n, e := pump.Copy(pump.Chunks(count(1, 5), 2), b); n != c.n || e != c.e || !bytes.Equal(b.Bytes(), c.want) || b.Count() != c.n {
			t.Errorf("room %d: %d, %v, %v", c.room, n, e, b.Bytes())
		}
	}
}

// P27.3
func TestChunks(t *testing.T) {
	for length := range 10 {
		for _, size := range []int{math.MinInt, math.MinInt + 1, -2, -1, 0, 1, 2, 3, 4, 5, 6, 7, 8, 9, 10, 11, math.MaxInt - 1, math.MaxInt} {
			data := count(1, length)
			want := cut(count(1, length), size)
			seq := pump.Chunks(data, size)
			for range 2 {
				if got := slices.Collect(seq); !same(got, want) {
					t.Fatalf("Chunks of %d bytes with size %d: %v, want %v", length, size, got, want)
				}
			}
			for stop := range len(want) {
				var got [][]byte
				for piece := range seq {
					if got = append(got, piece); len(got) > stop {
						break
					}
				}
				if !same(got, want[:stop+1]) {
					t.Fatalf("Chunks of %d bytes with size %d, stopped at %d: %v", length, size, stop, got)
				}
			}
		}
	}
}

// P27.3: the pieces are those of the call, and one iteration in another doesn't change it.
func TestChunksAreOfTheCall(t *testing.T) {
	data := count(1, 7)
	seq := pump.Chunks(data, 3)
	clear(data)
	want := cut(count(1, 7), 3)
	var outer [][]byte
	for piece := range seq {
		outer = append(outer, piece)
		if inner := slices.Collect(seq); !same(inner, want) {
			t.Errorf("the inner iteration: %v", inner)
		}
		clear(data)
	}
	if !same(outer, want) {
		t.Errorf("the outer iteration: %v", outer)
	}
}

// P27.4: each number of chunks, and each that is refused.
func TestCopy(t *testing.T) {
	for length := range 7 {
		for at := range length + 2 {
			for _, wrong := range []api.Errno{api.OK, api.ErrQuota, api.ErrPower, -1, math.MaxInt} {
				want, e := length, api.OK
				if wrong != api.OK && at < length {
					want, e = at, wrong
				}
				src := &source{chunks: cut(count(1, length), 1)}
				to := refuser(at, wrong)
				n, f := pump.Copy(src.all(), to)
				asked := want
				if e != api.OK {
					asked++
				}
				if n != want || f != e || !same(to.asked, src.chunks[:asked]) {
					t.Errorf("%d chunks, %v at %d: %d, %v, asked %v", length, wrong, at, n, f, to.asked)
				}
				if y := int(src.yielded.Load()); src.begun != 1 || !src.ended || y < asked || y > want+2 || e == api.OK && y != length {
					t.Errorf("%d chunks, %v at %d: the source was begun %d times, ended: %t, %d chunks", length, wrong, at, src.begun, src.ended, y)
				}
			}
		}
	}
}

// P27.4: chunks of any size, empty ones among them.
func TestCopyOfAnyChunks(t *testing.T) {
	chunks := [][]byte{nil, count(1, 3), {}, count(4, 1), nil, make([]byte, 100000), {}}
	src := &source{chunks: chunks}
	to := pump.NewBucket(200000)
	if n, e := pump.Copy(src.all(), to); n != 7 || e != api.OK || to.Count() != 7 || !bytes.Equal(to.Bytes(), bytes.Join(chunks, nil)) {
		t.Errorf("Copy = %d, %v, %d bytes in %d chunks", n, e, len(to.Bytes()), to.Count())
	}
	src = &source{chunks: chunks}
	to = pump.NewBucket(4)
	if n, e := pump.Copy(src.all(), to); n != 5 || e != api.ErrQuota || to.Count() != 5 || !bytes.Equal(to.Bytes(), count(1, 4)) {
		t.Errorf("Copy to a small bucket = %d, %v, %v in %d chunks", n, e, to.Bytes(), to.Count())
	}
}

// P27.4: a source without an end is left at the refusal, and so is one that has yielded its last chunk.
func TestCopyLeavesTheSource(t *testing.T) {
	ended := 0
	endless := func(yield func([]byte) bool) {
		defer func() { ended++ }()
		for i := 0; yield([]byte{byte(i)}); i++ {
		}
	}
	for at := range 40 {
		to := refuser(at, api.ErrBusy)
		if n, e := pump.Copy(endless, to); n != at || e != api.ErrBusy || len(to.asked) != at+1 || ended != at+1 {
			t.Fatalf("refused at %d: %d, %v, asked %d times, the source has ended %d times", at, n, e, len(to.asked), ended)
		}
	}
}

// lagging is a sink that takes its time, and keeps by how many chunks the source is ahead at most.
type lagging struct {
	src         *source
	pause       time.Duration
	taken, most int64
}

func (l *lagging) Take(chunk []byte) api.Errno {
	time.Sleep(l.pause)
	l.most = max(l.most, l.src.yielded.Load()-l.taken)
	if l.taken == 50 {
		return api.ErrBusy
	}
	l.taken++
	return api.OK
}

// P27.4: however slow the sink or the source is, the source isn't ahead by more than two chunks, and no goroutine is left (or the bubble doesn't end).
func TestCopyIsNotAhead(t *testing.T) {
	for _, c := range []struct{ sink, source time.Duration }{{0, 0}, {1, 0}, {5, 0}, {0, 1}, {0, 5}, {1, 1}, {2, 3}, {3, 2}} {
		synctest.Test(t, func(t *testing.T) {
			src := &source{chunks: cut(make([]byte, 100), 1)}
			slow := func(yield func([]byte) bool) {
				for chunk := range src.all() {
					time.Sleep(c.source)
					if !yield(chunk) {
						return
					}
				}
			}
			to := &lagging{src: src, pause: c.sink}
			n, e := pump.Copy(slow, to)
			if y := src.yielded.Load(); n != 50 || e != api.ErrBusy || to.most > 2 || y > 52 || !src.ended {
				t.Errorf("Copy = %d, %v; ahead by %d, and %d in all", n, e, to.most, y)
			}
			synctest.Wait()
			if y := src.yielded.Load(); y > 52 {
				t.Errorf("the source goes on: %d", y)
			}
		})
	}
}

// P27.4: a source may use one buffer for all of its chunks.
func TestCopyOfOneBuffer(t *testing.T) {
	synctest.Test(t, func(t *testing.T) {
		buffer := make([]byte, 2)
		src := func(yield func([]byte) bool) {
			for i := range 20 {
				buffer[0], buffer[1] = byte(i), byte(100+i)
				if !yield(buffer) {
					return
				}
				clear(buffer)
			}
		}
		to := &slowly{}
		if n, e := pump.Copy(src, to); n != 20 || e != api.OK {
			t.Errorf("Copy = %d, %v", n, e)
		}
		for i, chunk := range to.asked {
			if !bytes.Equal(chunk, []byte{byte(i), byte(100 + i)}) {
				t.Errorf("chunk %d: %v", i, chunk)
			}
		}
	})
}

// slowly is a sink that looks at its chunks after a while.
type slowly struct{ script }

func (s *slowly) Take(chunk []byte) api.Errno {
	time.Sleep(1)
	return s.script.Take(chunk)
}

// nested is a sink that copies each chunk byte by byte to another one.
type nested struct{ to pump.Sink }

func (n nested) Take(chunk []byte) api.Errno {
	_, e := pump.Copy(pump.Chunks(chunk, 1), n.to)
	return e
}

// P27.4, P2: many copies, one in another and one beside another, with one result.
func TestManyCopies(t *testing.T) {
	data := count(0, 200)
	results := make(chan bool)
	for range 8 {
		go func() {
			good := true
			for range 20 {
				to := pump.NewBucket(177)
				n, e := pump.Copy(pump.Chunks(data, 5), nested{nested{to}})
				good = good && n == 35 && e == api.ErrQuota && to.Count() == 177 && bytes.Equal(to.Bytes(), data[:177])
			}
			results <- good
		}()
	}
	for range 8 {
		if !<-results {
			t.Error("a copy in another one is wrong")
		}
	}
}
