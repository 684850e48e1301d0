package archive

import (
	"bytes"
	"iter"

	"satchel/api"
	"satchel/crc"
	"satchel/frame"
	"satchel/graph"
)

// Reader reads an archive as its bytes come.
type Reader struct {
	size   int    // of all that was fed
	start  string // what has come of the eight letters
	frames *frame.Reader
	sum    *crc.Digest // of the letters and the frames that were taken
	last   int         // the type of the last frame that was taken, 0 ahead of the first
	graph  api.Graph
	err    api.Errno
}

// NewReader gives a Reader of no bytes.
func NewReader() *Reader {
	r := &Reader{frames: frame.NewReader(), sum: crc.New()}
	r.sum.Write([]byte(letters))
	return r
}

// Feed takes bytes in.
func (r *Reader) Feed(chunk []byte) api.Errno {
	if r.err != api.OK {
		return r.err
	}
	if e := r.feed(chunk); e != api.OK {
		*r = Reader{err: e} // nothing else is asked for any more
	}
	return r.err
}

// feed expects that there was no error so far.
func (r *Reader) feed(chunk []byte) api.Errno {
	r.size += len(chunk)
	if r.size > api.MaxFile {
		return api.ErrLong
	}
	behind, e := r.begin(chunk)
	if e != api.OK {
		return e
	}
	wrong := r.frames.Feed(behind)
	for f := range r.arrived() {
		if e := r.take(f); e != api.OK {
			return e
		}
	}
	if !r.ended() {
		return wrong
	}
	if r.size > r.sum.Count() {
		return api.ErrTail
	}
	return api.OK
}

// begin takes what is missing of the letters, and returns what follows them.
func (r *Reader) begin(chunk []byte) ([]byte, api.Errno) {
	n := min(len(chunk), len(letters)-len(r.start))
	r.start += string(chunk[:n])
	if len(r.start) == len(letters) && r.start != letters {
		return nil, api.ErrMagic
	}
	return chunk[n:], api.OK
}

// arrived goes over the frames that are complete, up to the one that ends the archive.
func (r *Reader) arrived() iter.Seq[api.Frame] {
	return func(yield func(api.Frame) bool) {
		for !r.ended() {
			f, ok := r.frames.Next()
			if !ok || !yield(f) {
				return
			}
		}
	}
}

func (r *Reader) ended() bool {
	return r.last == api.FrameTrail
}

// follows tells whether a frame of a type may stand behind one of type last.
func follows(kind, last int) bool {
	if last == 0 {
		return kind == api.FrameHead
	}
	return kind > api.FrameHead && kind <= api.FrameTrail && kind >= last
}

// take takes the next frame.
func (r *Reader) take(f api.Frame) api.Errno {
	if !follows(f.Type, r.last) {
		return api.ErrFrame
	}
	if e := r.takeData(f); e != api.OK {
		return e
	}
	r.last = f.Type
	r.sum.Write(pack(f))
	return api.OK
}

func (r *Reader) takeData(f api.Frame) api.Errno {
	switch f.Type {
	case api.FrameHead:
		return expect(bytes.Equal(f.Data, head()), api.ErrVersion)
	case api.FrameNode:
		n, e := nodeOf(f.Data)
		r.graph.Nodes = append(r.graph.Nodes, n)
		return e
	case api.FrameRel:
		rel, e := relOf(f.Data)
		r.graph.Rels = append(r.graph.Rels, rel)
		return e
	}
	return expect(bytes.Equal(f.Data, trail(r.graph, r.sum.Sum())), api.ErrTrailer)
}

// expect returns an error unless something is right.
func expect(right bool, e api.Errno) api.Errno {
	if right {
		return api.OK
	}
	return e
}

// Graph gives the graph that what was fed stands for.
func (r *Reader) Graph() (api.Graph, api.Errno) {
	if r.err != api.OK {
		return api.Graph{}, r.err
	}
	if !r.ended() {
		return api.Graph{}, api.ErrShort
	}
	if e, _ := graph.Check(r.graph); e != api.OK {
		return api.Graph{}, e
	}
	return copyOf(r.graph), api.OK
}
