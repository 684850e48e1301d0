package crc_test

import (
	"bytes"
	"math"
	"testing"
	"time"

	"satchel/crc"
)

// checkText is the text by which CRC-32 sums are usually checked.
const (
	checkText = "123456789"
	checkSum  = 0xcbf43926
)

// stepped performs the step for one bit, as the document words it.
func stepped(n uint32) uint32 {
	out := n & 1
	n >>= 1
	if out == 1 {
		n ^= 0xedb88320
	}
	return n
}

// slowUpdate is Update as the document words it.
func slowUpdate(sum uint32, b []byte) uint32 {
	n := ^sum
	for _, c := range b {
		n ^= uint32(c)
		for range 8 {
			n = stepped(n)
		}
	}
	return ^n
}

// divided is the checksum as the document's polynomial division gives it.
func divided(b []byte) uint32 {
	var row []byte
	for _, c := range b {
		for i := range 8 {
			row = append(row, c>>i&1)
		}
	}
	// Of fewer than four bytes, the first 32 bits reach into the appended zeros.
	row = append(row, make([]byte, 32)...)
	for i := range 32 {
		row[i] ^= 1
	}
	for i := range len(row) - 32 {
		if row[i] == 0 {
			continue
		}
		for _, power := range []int{32, 26, 23, 22, 16, 12, 11, 10, 8, 7, 5, 4, 2, 1, 0} {
			row[i+32-power] ^= 1
		}
	}
	var sum uint32
	for i, bit := range row[len(row)-32:] {
		sum |= uint32(bit^1) << i
	}
	return sum
}

// matrix is a linear map of 32 bits: column i is what bit i becomes.
type matrix [32]uint32

func (m matrix) apply(n uint32) uint32 {
	var sum uint32
	for i := range 32 {
		if n>>i&1 == 1 {
			sum ^= m[i]
		}
	}
	return sum
}

func (m matrix) squared() matrix {
	var s matrix
	for i := range 32 {
		s[i] = m.apply(m[i])
	}
	return s
}

// slowCombine performs 8n steps by squaring the map that a step is.
func slowCombine(a, b uint32, n int) uint32 {
	var m matrix
	for i := range 32 {
		m[i] = stepped(1 << i)
	}
	for range 3 {
		m = m.squared()
	}
	for ; n > 0; n >>= 1 {
		if n&1 == 1 {
			a = m.apply(a)
		}
		m = m.squared()
	}
	return a ^ b
}

// bytesOf gives n bytes that look like nothing in particular, the same at each call.
func bytesOf(n int, seed uint32) []byte {
	b := make([]byte, n)
	for i := range b {
		seed = seed*1664525 + 1013904223
		b[i] = byte(seed >> 24)
	}
	return b
}

var someSums = []uint32{0, 1, 2, 0x80000000, 0x40000000, 0xffffffff, 0xfffffffe, 0x7fffffff, 0xedb88320, 0x04c11db7, checkSum, 0x12345678}

// P2.1

func TestSumKnown(t *testing.T) {
	for text, want := range map[string]uint32{
		"":                 0,
		checkText:          checkSum,
		"\x00":             0xd202ef8d,
		"a":                0xe8b7be43,
		"abc":              0x352441c2,
		"\x00\x00\x00\x00": 0x2144df1c,
		"\xff\xff\xff\xff": 0xffffffff,
		"The quick brown fox jumps over the lazy dog": 0x414fa339,
	} {
		if s := crc.Sum([]byte(text)); s != want {
			t.Errorf("Sum(%q) = %#x, want %#x", text, s, want)
		}
	}
	if s := crc.Sum(nil); s != 0 {
		t.Errorf("Sum(nil) = %#x", s)
	}
}

func TestSumOfOneByte(t *testing.T) {
	for c := range 256 {
		b := []byte{byte(c)}
		if s := crc.Sum(b); s != slowUpdate(0, b) {
			t.Errorf("Sum(%d) = %#x, want %#x", c, s, slowUpdate(0, b))
		}
	}
}

func TestSumIsTheRemainder(t *testing.T) {
	for n := range 70 {
		for _, b := range [][]byte{make([]byte, n), bytes.Repeat([]byte{255}, n), bytesOf(n, uint32(n))} {
			if s := crc.Sum(b); s != divided(b) || s != slowUpdate(0, b) {
				t.Errorf("Sum(%v) = %#x, want %#x", b, s, divided(b))
			}
		}
	}
}

func TestSumOfManyBytes(t *testing.T) {
	for _, n := range []int{255, 256, 257, 4095, 65536, 65537, 1 << 20} {
		b := bytesOf(n, 7)
		if s := crc.Sum(b); s != slowUpdate(0, b) {
			t.Errorf("Sum of %d bytes = %#x, want %#x", n, s, slowUpdate(0, b))
		}
	}
}

func TestArgumentsStay(t *testing.T) {
	b := bytesOf(100, 3)
	part := b[:50]
	crc.Sum(part)
	crc.Update(5, part)
	crc.New().Write(part)
	if !bytes.Equal(b, bytesOf(100, 3)) {
		t.Error("an argument was changed")
	}
}

// P2.2

func TestUpdateOfAnySum(t *testing.T) {
	for _, sum := range someSums {
		for n := range 20 {
			b := bytesOf(n, sum)
			if s := crc.Update(sum, b); s != slowUpdate(sum, b) {
				t.Errorf("Update(%#x, %v) = %#x, want %#x", sum, b, s, slowUpdate(sum, b))
			}
		}
		if s := crc.Update(sum, nil); s != sum {
			t.Errorf("Update(%#x, nil) = %#x", sum, s)
		}
	}
}

func TestUpdateGoesOn(t *testing.T) {
	b := bytesOf(60, 1)
	for i := range len(b) + 1 {
		if s := crc.Update(crc.Sum(b[:i]), b[i:]); s != crc.Sum(b) {
			t.Errorf("cut at %d: %#x, want %#x", i, s, crc.Sum(b))
		}
	}
}

// P2.3

func TestCombineOfParts(t *testing.T) {
	b := bytesOf(300, 2)
	for i := range len(b) + 1 {
		x, y := b[:i], b[i:]
		if s := crc.Combine(crc.Sum(x), crc.Sum(y), len(y)); s != slowUpdate(0, b) {
			t.Errorf("cut at %d: %#x, want %#x", i, s, slowUpdate(0, b))
		}
	}
}

func TestCombineStepByStep(t *testing.T) {
	for _, a := range someSums {
		want := a
		for n := range 70 {
			for _, b := range someSums {
				if s := crc.Combine(a, b, n); s != want^b {
					t.Errorf("Combine(%#x, %#x, %d) = %#x, want %#x", a, b, n, s, want^b)
				}
			}
			for range 8 {
				want = stepped(want)
			}
		}
	}
}

func TestCombineNegative(t *testing.T) {
	for _, n := range []int{0, -1, -2, -8, -1 << 32, math.MinInt + 1, math.MinInt} {
		for _, a := range someSums {
			if s := crc.Combine(a, 3, n); s != a^3 {
				t.Errorf("Combine(%#x, 3, %d) = %#x", a, n, s)
			}
		}
	}
}

// greatCounts are around the powers of two, and the greatest.
func greatCounts() []int {
	counts := []int{math.MaxInt, math.MaxInt - 1, 1<<32 - 1, 1000000007, 123456789012345678}
	for i := 3; i < 63; i++ {
		counts = append(counts, 1<<i-1, 1<<i, 1<<i+1)
	}
	return counts
}

func TestCombineGreatCounts(t *testing.T) {
	for _, n := range greatCounts() {
		for _, a := range someSums {
			if s := crc.Combine(a, 0x1234, n); s != slowCombine(a, 0x1234, n) {
				t.Errorf("Combine(%#x, 0x1234, %d) = %#x, want %#x", a, n, s, slowCombine(a, 0x1234, n))
			}
		}
	}
}

func TestCombineIsQuick(t *testing.T) {
	done := make(chan uint32, 1)
	go func() {
		sum := uint32(1)
		for range 100 {
			for _, n := range greatCounts() {
				sum = crc.Combine(sum, 5, n)
			}
		}
		done <- sum
	}()
	select {
	case <-done:
	case <-time.After(30 * time.Second):
		t.Fatal("some 20000 calls of Combine take longer than half a minute")
	}
}

// P2.4

func wantDigest(t *testing.T, d *crc.Digest, written []byte) {
	t.Helper()
	for range 2 {
		if d.Sum() != slowUpdate(0, written) || d.Count() != len(written) {
			t.Errorf("Sum %#x, Count %d, want %#x, %d", d.Sum(), d.Count(), slowUpdate(0, written), len(written))
		}
	}
}

func TestDigestOfPieces(t *testing.T) {
	b := bytesOf(400, 4)
	d := crc.New()
	wantDigest(t, d, nil)
	at := 0
	for n := 0; at+n <= len(b); n++ {
		d.Write(b[at : at+n])
		at += n
		wantDigest(t, d, b[:at])
		d.Write(nil)
		wantDigest(t, d, b[:at])
	}
}

func TestDigestKeepsNoPiece(t *testing.T) {
	d := crc.New()
	piece := make([]byte, 1, 8)
	for i := range len(checkText) {
		piece[0] = checkText[i]
		d.Write(piece)
	}
	piece[0] = 0
	wantDigest(t, d, []byte(checkText))
}

func TestDigestsAreIndependent(t *testing.T) {
	x, y := crc.New(), crc.New()
	x.Write([]byte("ab"))
	wantDigest(t, y, nil)
	y.Write([]byte("c"))
	x.Write([]byte("d"))
	wantDigest(t, x, []byte("abd"))
	wantDigest(t, y, []byte("c"))
	wantDigest(t, crc.New(), nil)
}

// P2.5

// bursts are differences within 32 bits: every one or two bits, the polynomial, and others.
func bursts() []uint32 {
	all := []uint32{0xedb88320, 0x04c11db7, 0x82608edb, 0xdb710641, 0xffffffff, 0x01010101}
	for i := range 32 {
		for j := range i + 1 {
			all = append(all, 1<<i|1<<j)
		}
	}
	b := bytesOf(4000, 5)
	for i := 0; i < len(b); i += 4 {
		all = append(all, uint32(b[i])<<24|uint32(b[i+1])<<16|uint32(b[i+2])<<8|uint32(b[i+3])|1)
	}
	return all
}

func TestNearSlicesDiffer(t *testing.T) {
	for _, n := range []int{4, 5, 9, 64} {
		b := bytesOf(n, 6)
		sum := crc.Sum(b)
		for at := range n - 3 {
			for _, burst := range bursts() {
				c := bytes.Clone(b)
				for i := range 4 {
					c[at+i] ^= byte(burst >> (8 * i))
				}
				if crc.Sum(c) == sum {
					t.Errorf("%d bytes, difference %#x at %d: the same checksum", n, burst, at)
				}
			}
		}
	}
}

func TestShortSlicesDiffer(t *testing.T) {
	seen := map[uint32]int{}
	for n := range 1 << 16 {
		s := crc.Sum([]byte{byte(n >> 8), byte(n)})
		if m, ok := seen[s]; ok {
			t.Fatalf("%d and %d in two bytes have one checksum", m, n)
		}
		seen[s] = n
	}
}

// P1 and P2

func TestCallsRepeat(t *testing.T) {
	b := bytesOf(1000, 8)
	for _, a := range someSums {
		if crc.Sum(b) != crc.Sum(b) || crc.Update(a, b) != crc.Update(a, b) {
			t.Errorf("%#x: a call answered differently when repeated", a)
		}
		for _, n := range greatCounts() {
			if crc.Combine(a, 9, n) != crc.Combine(a, 9, n) {
				t.Errorf("Combine(%#x, 9, %d) answered differently when repeated", a, n)
			}
		}
	}
}
