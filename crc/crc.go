// Package crc is layer 2: CRC-32 checksums (see shared/doc/02-crc.md).
package crc

import "math/bits"

// A number here is a polynomial over the field of two elements, modulo that of
// CRC-32: its highest bit is the coefficient of x^0. So the checksum's step, a
// shift to the right, multiplies by x.
const (
	divisor uint32 = 0xedb88320
	one     uint32 = 1 << 31
)

// nibbles holds what four steps make of each number of four bits: a byte costs
// two look-ups instead of eight steps.
var nibbles = [16]uint32{
	0x00000000, 0x1db71064, 0x3b6e20c8, 0x26d930ac,
	0x76dc4190, 0x6b6b51f4, 0x4db26158, 0x5005713c,
	0xedb88320, 0xf00f9344, 0xd6d6a3e8, 0xcb61b38c,
	0x9b64c2b0, 0x86d3d2d4, 0xa00ae278, 0xbdbdf21c,
}

// step is the checksum's step for one bit.
func step(n uint32) uint32 {
	if n&1 == 1 {
		return n>>1 ^ divisor
	}
	return n >> 1
}

// feed takes one byte into a checksum that is not inverted.
func feed(n uint32, c byte) uint32 {
	n ^= uint32(c)
	n = n>>4 ^ nibbles[n&15]
	return n>>4 ^ nibbles[n&15]
}

// times multiplies two polynomials.
func times(a, b uint32) uint32 {
	var product uint32
	for range 32 {
		if a&one != 0 {
			product ^= b
		}
		a <<= 1
		b = step(b)
	}
	return product
}

// zeros returns x^(8n), by which n bytes of zeros multiply. It squares its way
// along the bits of n, since n may be far too great to count to.
func zeros(n uint) uint32 {
	power := one
	for i := bits.Len(n) - 1; i >= 0; i-- {
		power = times(power, power)
		if n>>i&1 == 1 {
			power = feed(power, 0)
		}
	}
	return power
}

// Sum gives the checksum of b.
func Sum(b []byte) uint32 {
	return Update(0, b)
}

// Update gives the checksum of what had sum, with b behind it.
func Update(sum uint32, b []byte) uint32 {
	n := ^sum
	for _, c := range b {
		n = feed(n, c)
	}
	return ^n
}

// Combine gives the checksum of two texts from their sums and the second one's length.
func Combine(a, b uint32, n int) uint32 {
	return times(a, zeros(uint(max(n, 0)))) ^ b
}

// Digest sums bytes as they come.
type Digest struct {
	sum   uint32
	count int
}

// New gives a Digest of no bytes.
func New() *Digest {
	return &Digest{}
}

// Write takes bytes in.
func (d *Digest) Write(b []byte) {
	d.sum = Update(d.sum, b)
	d.count += len(b)
}

// Sum tells the checksum of all bytes so far.
func (d *Digest) Sum() uint32 {
	return d.sum
}

// Count tells how many bytes there were.
func (d *Digest) Count() int {
	return d.count
}
