package frame_test

import (
	"bytes"
	"math"
	"math/rand"
	"slices"
	"testing"

	"satchel/api"
	"satchel/frame"
)

// every is more frames than there are anywhere.
const every = 1 << 40

func sameFrame(a, b api.Frame) bool {
	return a.Type == b.Type && bytes.Equal(a.Data, b.Data)
}

func sameFrames(a, b []api.Frame) bool {
	return slices.EqualFunc(a, b, sameFrame)
}

func isNone(f api.Frame) bool {
	return f.Type == 0 && len(f.Data) == 0
}

// roomy gives a copy of b with spare capacity, whose bytes are 77.
func roomy(b []byte) []byte {
	r := append(bytes.Clone(b), bytes.Repeat([]byte{77}, 20)...)
	return r[:len(b)]
}

// wantIntact checks that a slice of roomy is as it was made.
func wantIntact(t *testing.T, r, b []byte) {
	t.Helper()
	if !bytes.Equal(r, b) {
		t.Errorf("an argument of %d bytes has changed", len(b))
	}
	for _, c := range r[len(r) : len(r)+20] {
		if c != 77 {
			t.Errorf("the spare capacity of an argument has become %d", c)
		}
	}
}

// smudge overwrites a slice and its spare capacity.
func smudge(b []byte) {
	b = b[:cap(b)]
	for i := range b {
		b[i] ^= 0xff
	}
}

func clip(b []byte) []byte {
	return b[:min(len(b), 100)]
}

// wantSplit compares Split with the model.
func wantSplit(t *testing.T, b []byte) {
	t.Helper()
	want := read(b)
	if want.e != api.OK {
		want.frames = nil
	}
	if frames, e := frame.Split(b); e != want.e || !sameFrames(frames, want.frames) {
		t.Fatalf("Split = %d frames, %v, want %d, %v, of %d bytes % d", len(frames), e, len(want.frames), want.e, len(b), clip(b))
	}
}

// step is a step of All.
type step struct {
	f api.Frame
	e api.Errno
}

func sameStep(a, b step) bool {
	return sameFrame(a.f, b.f) && a.e == b.e
}

// stepsOf are the steps that the model takes.
func stepsOf(b []byte) []step {
	var steps []step
	want := read(b)
	for _, f := range want.frames {
		steps = append(steps, step{f, api.OK})
	}
	if want.e != api.OK {
		steps = append(steps, step{api.Frame{}, want.e})
	}
	return steps
}

// wantAll compares All with the model, twice and stopped behind each step.
func wantAll(t *testing.T, b []byte) {
	t.Helper()
	want := stepsOf(b)
	all := frame.All(b)
	for stop := len(want) + 1; stop > 0; stop-- {
		var got []step
		for f, e := range all {
			got = append(got, step{f, e})
			if len(got) == stop {
				break
			}
		}
		if !slices.EqualFunc(got, want[:min(stop, len(want))], sameStep) {
			t.Fatalf("stopped at step %d: %v, want %v, of % d", stop, got, want, clip(b))
		}
	}
}

// wantState asks a Reader for what it tells without taking anything, twice.
func wantState(t *testing.T, r *frame.Reader, e api.Errno, rest int) {
	t.Helper()
	for range 2 {
		if r.Err() != e || r.Rest() != rest {
			t.Fatalf("Err %v, Rest %d, want %v, %d", r.Err(), r.Rest(), e, rest)
		}
	}
}

// next takes up to n frames.
func next(t *testing.T, r *frame.Reader, n int) []api.Frame {
	t.Helper()
	var frames []api.Frame
	for len(frames) < n {
		f, ok := r.Next()
		if !ok {
			if !isNone(f) {
				t.Fatalf("Next = %v, false", f)
			}
			break
		}
		frames = append(frames, f)
	}
	return frames
}

// wantFed feeds chunks to a Reader, and takes up to n frames behind each of them; all is compared with the model.
func wantFed(t *testing.T, n int, chunks ...[]byte) {
	t.Helper()
	r := frame.NewReader()
	wantState(t, r, api.OK, 0)
	var all []byte
	var got []api.Frame
	var want reading
	for i, chunk := range chunks {
		all = append(all, chunk...)
		want = read(all)
		e, rest := want.fed()
		if answer := r.Feed(chunk); answer != e {
			t.Fatalf("chunk %d: Feed = %v, want %v, of % d", i, answer, e, clip(all))
		}
		wantState(t, r, e, rest)
		due := min(len(got)+n, len(want.frames))
		got = append(got, next(t, r, n)...)
		wantState(t, r, e, rest)
		if len(got) != due {
			t.Fatalf("chunk %d: %d frames, want %d", i, len(got), due)
		}
	}
	got = append(got, next(t, r, every)...)
	if !sameFrames(got, want.frames) {
		t.Fatalf("Next gave %d frames, want %d, of %d bytes % d", len(got), len(want.frames), len(all), clip(all))
	}
	if f, ok := r.Next(); ok || !isNone(f) {
		t.Fatalf("Next = %v, %v behind the last frame", f, ok)
	}
}

// single cuts b into chunks of one byte.
func single(b []byte) [][]byte {
	return slices.Collect(slices.Chunk(b, 1))
}

// cut cuts b into chunks of random sizes, some of them empty.
func cut(rng *rand.Rand, b []byte, most int) [][]byte {
	var chunks [][]byte
	for len(b) > 0 {
		n := min(rng.Intn(most+1), len(b))
		chunks = append(chunks, b[:n])
		b = b[n:]
	}
	return chunks
}

// wantRead compares all ways of reading with the model.
func wantRead(t *testing.T, b []byte) {
	t.Helper()
	wantSplit(t, b)
	wantAll(t, b)
	wantFed(t, every, b)
	wantFed(t, every, single(b)...)
	wantFed(t, 0, single(b)...)
}

// P19.1

func TestPack(t *testing.T) {
	for _, kind := range []int{0, 1, 2, 4, 127, 128, 254, 255} {
		for _, n := range []int{0, 1, 2, 255, 256, 257, 65535, 65536, 1048575, 1048576} {
			data := roomy(bytes.Repeat([]byte{byte(kind) ^ 5, byte(n), 200}, n/3+1)[:n])
			f := api.Frame{Type: kind, Data: data}
			want := packed(f)
			b, e := frame.Pack(f)
			if e != api.OK || !bytes.Equal(b, want) {
				t.Errorf("Pack of type %d with %d bytes: %v, % d, want % d", kind, n, e, clip(b), clip(want))
			}
			wantIntact(t, data, bytes.Repeat([]byte{byte(kind) ^ 5, byte(n), 200}, n/3+1)[:n])
		}
	}
	if b, e := frame.Pack(api.Frame{Type: 2, Data: []byte{9}}); e != api.OK || !bytes.HasPrefix(b, []byte{2, 0, 0, 0, 1, 9}) || len(b) != 10 {
		t.Errorf("the example: % d, %v", b, e)
	}
}

func TestPackRefuses(t *testing.T) {
	for _, c := range []struct {
		kind, n int
		e       api.Errno
	}{
		{-1, 0, api.ErrArg}, {256, 0, api.ErrArg}, {257, 3, api.ErrArg}, {-255, 0, api.ErrArg}, {math.MinInt, 0, api.ErrArg},
		{math.MaxInt, 0, api.ErrArg}, {1 << 32, 1, api.ErrArg}, {-1 << 32, 1, api.ErrArg},
		{0, 1048577, api.ErrLong}, {255, 1048577, api.ErrLong}, {1, 1<<21 + 1, api.ErrLong},
		{-1, 1048577, api.ErrArg}, {256, 1048577, api.ErrArg},
	} {
		if b, e := frame.Pack(api.Frame{Type: c.kind, Data: make([]byte, c.n)}); e != c.e || len(b) != 0 {
			t.Errorf("Pack of type %d with %d bytes = %d bytes, %v, want %v", c.kind, c.n, len(b), e, c.e)
		}
	}
}

// P19.2, P19.3, P19.4

func some() []api.Frame {
	return []api.Frame{{Type: 2, Data: []byte{9}}, {Type: 0}, {Type: 255, Data: []byte("SATCHEL1")}, {Type: 7, Data: make([]byte, 3)}}
}

func TestPrefixes(t *testing.T) {
	b := stream(some()...)
	for n := range len(b) + 1 {
		wantRead(t, b[:n])
	}
	if frames, e := frame.Split(b); e != api.OK || !sameFrames(frames, some()) {
		t.Errorf("Split = %v, %v", frames, e)
	}
	wantRead(t, nil)
	wantRead(t, []byte{})
}

func TestExample(t *testing.T) {
	r := frame.NewReader()
	for i, c := range packed(some()[0]) {
		if f, ok := r.Next(); ok || !isNone(f) || r.Rest() != i {
			t.Errorf("ahead of byte %d: Next = %v, %v, Rest %d", i, f, ok, r.Rest())
		}
		r.Feed([]byte{c})
	}
	if f, ok := r.Next(); !ok || f.Type != 2 || !bytes.Equal(f.Data, []byte{9}) || r.Rest() != 0 {
		t.Errorf("Next = %v, %v, Rest %d", f, ok, r.Rest())
	}
}

// Every bit of a stream is changed, so that lengths, data and checksums are wrong.
func TestChangedBits(t *testing.T) {
	b := stream(some()...)
	errors := map[api.Errno]int{}
	for i := range b {
		for bit := range 8 {
			wrong := bytes.Clone(b)
			wrong[i] ^= 1 << bit
			errors[read(wrong).e]++
			wantRead(t, wrong)
		}
	}
	if errors[api.ErrSum] == 0 || errors[api.ErrLong] == 0 || errors[api.ErrShort] == 0 || errors[api.OK] != 0 {
		t.Errorf("the model answers %v", errors)
	}
}

// header is the beginning of a frame whose length is told to be n.
func header(n uint32) []byte {
	return []byte{1, byte(n >> 24), byte(n >> 16), byte(n >> 8), byte(n)}
}

// The length alone decides about ErrLong, as soon as it is whole, whatever follows it.
func TestLengths(t *testing.T) {
	for _, n := range []uint32{0, 1, 1048575, 1048576, 1048577, 1048832, 1 << 21, 1<<31 - 1, 1 << 31, 1<<32 - 9, 1<<32 - 4, 1<<32 - 1} {
		for _, ahead := range [][]byte{nil, stream(some()...)} {
			for _, behind := range [][]byte{nil, {0}, make([]byte, 40)} {
				b := slices.Concat(ahead, header(n), behind)
				wantRead(t, b)
				wantRead(t, b[:len(ahead)+4])
			}
		}
	}
	if _, e := frame.Split(header(1048577)); e != api.ErrLong {
		t.Errorf("Split: %v", e)
	}
	if _, e := frame.Split(header(1048577)[:4]); e != api.ErrShort {
		t.Errorf("Split: %v", e)
	}
}

// Of what is wrong, the frame that comes first decides.
func TestFirstWrongFrame(t *testing.T) {
	good := packed(some()[0])
	badSum := bytes.Clone(good)
	badSum[9]++
	badType := bytes.Clone(good)
	badType[0]++
	parts := [][]byte{good, badSum, badType, header(1 << 24), header(3), {1}, nil}
	for _, a := range parts {
		for _, b := range parts {
			for _, c := range parts {
				wantRead(t, slices.Concat(a, b, c))
				wantRead(t, slices.Concat(good, a, b, c))
				wantFed(t, 1, a, b, c, good, good)
			}
		}
	}
}

func TestGreatFrames(t *testing.T) {
	data := bytes.Repeat([]byte{1, 2, 3, 4, 5, 6, 7}, 1048576/7+1)
	rng := rand.New(rand.NewSource(1))
	for _, n := range []int{65535, 65536, 1048575, 1048576} {
		b := stream(api.Frame{Type: 1, Data: data[:n]}, api.Frame{Type: 2}, api.Frame{Type: 3, Data: data[:n]})
		for _, n := range []int{len(b), len(b) - 1, n + 9, n + 8, n + 10} {
			wantSplit(t, b[:n])
			wantAll(t, b[:n])
			wantFed(t, 1, cut(rng, b[:n], 1<<20)...)
			wantFed(t, 1, b[:n])
		}
		b[n]++
		wantSplit(t, b)
		wantFed(t, 1, b)
	}
}

// A frame that comes byte by byte, and many frames that come at once, take no more steps than there are bytes.
func TestMuchAtOnceAndBitByBit(t *testing.T) {
	great := packed(api.Frame{Type: 1, Data: make([]byte, 1048576)})
	r := frame.NewReader()
	for _, c := range single(great) {
		if e := r.Feed(c); e != api.OK {
			t.Fatalf("Feed: %v", e)
		}
	}
	if f, ok := r.Next(); !ok || len(f.Data) != 1048576 || r.Rest() != 0 {
		t.Errorf("Next = %d bytes, %v, Rest %d", len(f.Data), ok, r.Rest())
	}
	small := bytes.Repeat(packed(some()[0]), 100000)
	frames, e := frame.Split(small)
	if e != api.OK || len(frames) != 100000 {
		t.Errorf("Split = %d frames, %v", len(frames), e)
	}
	r = frame.NewReader()
	for chunk := range slices.Chunk(small, 33333) {
		r.Feed(chunk)
	}
	if n := len(next(t, r, every)); n != 100000 {
		t.Errorf("Next gave %d frames", n)
	}
}

func randomFrames(rng *rand.Rand) []api.Frame {
	var frames []api.Frame
	for range rng.Intn(6) {
		f := api.Frame{Type: rng.Intn(256), Data: make([]byte, rng.Intn(12))}
		if rng.Intn(8) == 0 {
			f.Data = make([]byte, rng.Intn(700))
		}
		rng.Read(f.Data)
		frames = append(frames, f)
	}
	return frames
}

func TestRandomStreams(t *testing.T) {
	rng := rand.New(rand.NewSource(2))
	for range 4000 {
		b := stream(randomFrames(rng)...)
		switch rng.Intn(4) {
		case 0:
			b = b[:rng.Intn(len(b)+1)]
		case 1:
			if len(b) > 0 {
				b[rng.Intn(len(b))] = byte(rng.Intn(256))
			}
		case 2:
			noise := make([]byte, rng.Intn(20))
			rng.Read(noise)
			b = append(b, noise...)
		}
		wantSplit(t, b)
		wantAll(t, b)
		for _, most := range []int{1, 3, 12, 100, 2000} {
			wantFed(t, rng.Intn(3), cut(rng, b, most)...)
			wantFed(t, every, cut(rng, b, most)...)
		}
	}
}

// A stream of two frames, and of what may follow them, is cut in every two places.
func TestAllCuts(t *testing.T) {
	for _, behind := range [][]byte{nil, {5}, header(1 << 30), {1, 0, 0, 0, 0, 1, 2, 3, 4}} {
		b := append(stream(some()[0], some()[1]), behind...)
		for i := range len(b) + 1 {
			for k := i; k <= len(b); k++ {
				wantFed(t, every, b[:i], b[i:k], b[k:])
				wantFed(t, 0, b[:i], b[i:k], nil, b[k:])
			}
		}
	}
}

// An error stays, and no byte behind it counts.
func TestErrorStays(t *testing.T) {
	bad := packed(some()[0])
	bad[5]++
	for _, c := range []struct {
		b []byte
		e api.Errno
	}{{bad, api.ErrSum}, {header(1 << 23), api.ErrLong}} {
		r := frame.NewReader()
		if e := r.Feed(slices.Concat(stream(some()...), c.b, header(3))); e != c.e {
			t.Errorf("Feed: %v, want %v", e, c.e)
		}
		for _, chunk := range [][]byte{nil, bad, header(1 << 23), stream(some()...), {1}} {
			if e := r.Feed(chunk); e != c.e {
				t.Errorf("Feed: %v, want %v", e, c.e)
			}
			wantState(t, r, c.e, 0)
		}
		if got := next(t, r, every); !sameFrames(got, some()) {
			t.Errorf("Next gave %v", got)
		}
		wantState(t, r, c.e, 0)
	}
}

func TestReadersAreIndependent(t *testing.T) {
	a, b := frame.NewReader(), frame.NewReader()
	a.Feed(packed(some()[0]))
	b.Feed(header(1 << 30))
	wantState(t, a, api.OK, 0)
	wantState(t, b, api.ErrLong, 0)
	if _, ok := b.Next(); ok {
		t.Error("a Reader gives another's frame")
	}
	a.Feed([]byte{1, 2})
	wantState(t, a, api.OK, 2)
	wantState(t, frame.NewReader(), api.OK, 0)
	if f, ok := a.Next(); !ok || f.Type != 2 {
		t.Errorf("Next = %v, %v", f, ok)
	}
}

// P19.3: All reads what was there when it was called; one iterator may be used within itself.
func TestAllReadsACopy(t *testing.T) {
	b := roomy(append(stream(some()...), 1))
	want := stepsOf(b)
	all := frame.All(b)
	wantIntact(t, b, append(stream(some()...), 1))
	smudge(b)
	count := 0
	for f, e := range all {
		if !sameStep(step{f, e}, want[count]) {
			t.Errorf("step %d: %v, %v", count, f, e)
		}
		inner := 0
		for g, e := range all {
			if !sameStep(step{g, e}, want[inner]) {
				t.Errorf("step %d inside of step %d: %v, %v", inner, count, g, e)
			}
			smudge(g.Data)
			inner++
		}
		if inner != len(want) || !sameFrame(f, want[count].f) {
			t.Errorf("step %d: %d steps inside, then %v", count, inner, f)
		}
		smudge(f.Data)
		count++
	}
	if count != len(want) {
		t.Errorf("%d steps", count)
	}
}

// P19.5

func TestSplitIsNewMemory(t *testing.T) {
	b := roomy(stream(some()...))
	first, _ := frame.Split(b)
	second, _ := frame.Split(b)
	wantIntact(t, b, stream(some()...))
	for i := range first {
		smudge(first[i].Data)
		if !sameFrames(first[i+1:], some()[i+1:]) {
			t.Errorf("overwriting frame %d has changed another", i)
		}
	}
	first = first[:cap(first)]
	clear(first)
	wantIntact(t, b, stream(some()...))
	smudge(b)
	if !sameFrames(second, some()) {
		t.Errorf("a second result has become %v", second)
	}
}

func TestPackIsNewMemory(t *testing.T) {
	data := roomy([]byte{1, 2, 3})
	f := api.Frame{Type: 5, Data: data}
	want := packed(f)
	first, _ := frame.Pack(f)
	second, _ := frame.Pack(f)
	smudge(first)
	wantIntact(t, data, []byte{1, 2, 3})
	smudge(data)
	if !bytes.Equal(second, want) {
		t.Errorf("a result has become % d", second)
	}
}

// What is fed may be overwritten, and so may what Next gave.
func TestReaderKeepsNothing(t *testing.T) {
	b := stream(some()...)
	for size := 1; size <= len(b); size++ {
		for _, late := range []bool{false, true} {
			r := frame.NewReader()
			var got []api.Frame
			for chunk := range slices.Chunk(b, size) {
				c := roomy(chunk)
				r.Feed(c)
				wantIntact(t, c, chunk)
				smudge(c)
				if late {
					continue
				}
				for _, f := range next(t, r, every) {
					got = append(got, api.Frame{Type: f.Type, Data: bytes.Clone(f.Data)})
					smudge(f.Data)
				}
			}
			for _, f := range next(t, r, every) {
				got = append(got, api.Frame{Type: f.Type, Data: bytes.Clone(f.Data)})
				smudge(f.Data)
			}
			if !sameFrames(got, some()) {
				t.Errorf("chunks of %d bytes: %v", size, got)
			}
		}
	}
}
