// Package wire is layer 1: integers as bytes, most significant byte first (see shared/doc/01-wire.md).
package wire

import (
	"bytes"

	"satchel/api"
)

// goodWidth reports whether a number can have so many bytes.
func goodWidth(width int) bool {
	return width == 1 || width == 2 || width == 4 || width == 8
}

// appendNum expects a good width.
func appendNum(b []byte, width int, n uint64) []byte {
	for i := width - 1; i >= 0; i-- {
		b = append(b, byte(n>>(8*i)))
	}
	return b
}

// number returns what all bytes of b encode.
func number(b []byte) uint64 {
	var n uint64
	for _, c := range b {
		n = n<<8 | uint64(c)
	}
	return n
}

// Writer gathers bytes.
type Writer struct {
	buf []byte
}

// NewWriter gives an empty Writer.
func NewWriter() *Writer {
	return &Writer{}
}

// Num puts n behind what is there, in width bytes; nothing if width is none.
func (w *Writer) Num(width int, n uint64) {
	if goodWidth(width) {
		w.buf = appendNum(w.buf, width, n)
	}
}

// Raw puts the bytes of b behind what is there.
func (w *Writer) Raw(b []byte) {
	w.buf = append(w.buf, b...)
}

// Str puts the bytes of s behind what is there.
func (w *Writer) Str(s string) {
	w.buf = append(w.buf, s...)
}

// Len tells how many bytes are there.
func (w *Writer) Len() int {
	return len(w.buf)
}

// Bytes gives a copy of what is there, as the Writer goes on appending to its own.
func (w *Writer) Bytes() []byte {
	return bytes.Clone(w.buf)
}

// Reader reads bytes from the first on, till a read fails.
type Reader struct {
	rest []byte
	err  api.Errno
}

// NewReader gives a Reader of a copy of b, which its owner may overwrite.
func NewReader(b []byte) *Reader {
	return &Reader{rest: bytes.Clone(b)}
}

// fail drops the rest, so that no later read finds anything; only the first error counts.
func (r *Reader) fail(e api.Errno) {
	if r.err == api.OK {
		r.err = e
	}
	r.rest = nil
}

// Num reads a number of width bytes.
func (r *Reader) Num(width int) uint64 {
	n, e := Get(r.rest, 0, width)
	if e != api.OK {
		r.fail(e)
		return 0
	}
	r.rest = r.rest[width:]
	return n
}

// Raw reads n bytes.
func (r *Reader) Raw(n int) []byte {
	if n < 0 {
		r.fail(api.ErrArg)
		return nil
	}
	if n > len(r.rest) {
		r.fail(api.ErrShort)
		return nil
	}
	b := bytes.Clone(r.rest[:n])
	r.rest = r.rest[n:]
	return b
}

// Left tells how many bytes are left; none behind an error.
func (r *Reader) Left() int {
	return len(r.rest)
}

// Err tells the first error.
func (r *Reader) Err() api.Errno {
	return r.err
}

// End tells the first error, or whether bytes are left.
func (r *Reader) End() api.Errno {
	if r.err == api.OK && len(r.rest) > 0 {
		return api.ErrTail
	}
	return r.err
}

// checkPlace tells whether width bytes stand in b from at on.
func checkPlace(b []byte, at, width int) api.Errno {
	if !goodWidth(width) || at < 0 {
		return api.ErrArg
	}
	// The sum of at and width could overflow; this difference can't.
	if len(b)-at < width {
		return api.ErrShort
	}
	return api.OK
}

// Get tells the number that stands in b from at on.
func Get(b []byte, at, width int) (uint64, api.Errno) {
	if e := checkPlace(b, at, width); e != api.OK {
		return 0, e
	}
	return number(b[at : at+width]), api.OK
}

// Set gives a copy of b with a number laid into it.
func Set(b []byte, at, width int, n uint64) ([]byte, api.Errno) {
	if e := checkPlace(b, at, width); e != api.OK {
		return nil, e
	}
	out := make([]byte, 0, len(b))
	out = append(out, b[:at]...)
	out = appendNum(out, width, n)
	return append(out, b[at+width:]...), api.OK
}
