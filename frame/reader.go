package frame

import (
	"bytes"

	"satchel/api"
)

// Reader takes bytes as they come and gives frames.
type Reader struct {
	rest   []byte      // what stands behind the last complete frame
	frames []api.Frame // those that Next has not returned
	err    api.Errno
}

// NewReader gives a Reader of no bytes.
func NewReader() *Reader {
	return &Reader{}
}

// Feed takes bytes in.
func (r *Reader) Feed(chunk []byte) api.Errno {
	if r.err != api.OK {
		return r.err
	}
	r.rest = append(r.rest, chunk...)
	used := r.collect()
	if r.err != api.OK {
		r.rest = nil
	} else if used > 0 {
		// No frame was complete before, so all that is left came with this chunk: a byte is copied once only.
		r.rest = bytes.Clone(r.rest[used:])
	}
	return r.err
}

// collect lays up the frames that are complete, and tells how many bytes they had.
func (r *Reader) collect() int {
	used := 0
	for f, e := range each(r.rest) {
		switch e {
		case api.OK:
			r.frames = append(r.frames, f)
			used += size(f)
		case api.ErrShort: // what is missing may still come
		default:
			r.err = e
		}
	}
	return used
}

// Next gives the next whole frame.
func (r *Reader) Next() (api.Frame, bool) {
	if len(r.frames) == 0 {
		return api.Frame{}, false
	}
	f := r.frames[0]
	r.frames[0] = api.Frame{} // or else its data would be kept as long as the list
	r.frames = r.frames[1:]
	return f, true
}

// Rest tells how many bytes no whole frame holds.
func (r *Reader) Rest() int {
	return len(r.rest)
}

// Err tells the first error.
func (r *Reader) Err() api.Errno {
	return r.err
}
