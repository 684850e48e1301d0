package frame_test

import (
	"encoding/binary"
	"hash/crc32"
	"slices"

	"satchel/api"
)

// packed is the encoding of a frame, with a checksum that is not the program's.
func packed(f api.Frame) []byte {
	b := binary.BigEndian.AppendUint32([]byte{byte(f.Type)}, uint32(len(f.Data)))
	b = append(b, f.Data...)
	return binary.BigEndian.AppendUint32(b, crc32.ChecksumIEEE(b))
}

func stream(frames ...api.Frame) []byte {
	var b []byte
	for _, f := range frames {
		b = append(b, packed(f)...)
	}
	return b
}

// reading is what the document says of bytes: the complete frames, how many bytes follow them, and what ends the reading: ErrShort for an incomplete frame.
type reading struct {
	frames []api.Frame
	rest   int
	e      api.Errno
}

func read(b []byte) reading {
	var r reading
	for len(b) > 0 {
		r.rest = len(b)
		if len(b) < 5 {
			r.e = api.ErrShort
			return r
		}
		n := uint64(binary.BigEndian.Uint32(b[1:5]))
		switch {
		case n > 1048576:
			r.e = api.ErrLong
			return r
		case uint64(len(b)) < 5+n+4:
			r.e = api.ErrShort
			return r
		case binary.BigEndian.Uint32(b[5+n:]) != crc32.ChecksumIEEE(b[:5+n]):
			r.e = api.ErrSum
			return r
		}
		r.frames = append(r.frames, api.Frame{Type: int(b[0]), Data: slices.Clone(b[5 : 5+n])})
		b = b[5+n+4:]
	}
	r.rest = 0
	return r
}

// fed is what a Reader answers that was fed the bytes: the error and the rest.
func (r reading) fed() (api.Errno, int) {
	if r.e == api.OK || r.e == api.ErrShort {
		return api.OK, r.rest
	}
	return r.e, 0
}
