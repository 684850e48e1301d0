package pump

import (
	"bytes"
	"slices"

	"satchel/api"
)

// Bucket is a Sink of so much room.
type Bucket struct {
	room  int // what is left of it
	bytes []byte
	count int
}

// NewBucket gives an empty Bucket.
func NewBucket(room int) *Bucket { return &Bucket{room: max(room, 0)} }

// Take takes a chunk, if there is room for it.
func (b *Bucket) Take(chunk []byte) api.Errno {
	if len(chunk) > b.room {
		return api.ErrQuota
	}
	b.room -= len(chunk)
	b.bytes = append(b.bytes, chunk...)
	b.count++
	return api.OK
}

// Bytes gives what was taken.
func (b *Bucket) Bytes() []byte { return bytes.Clone(b.bytes) }

// Count tells how many chunks were taken.
func (b *Bucket) Count() int { return b.count }

// tee hands each chunk to all of its sinks.
type tee []Sink

func (t tee) Take(chunk []byte) api.Errno {
	for _, sink := range t {
		if e := sink.Take(chunk); e != api.OK {
			return e
		}
	}
	return api.OK
}

// Tee gives a Sink that hands each chunk to all sinks.
func Tee(sinks ...Sink) Sink { return tee(slices.Clone(sinks)) }
