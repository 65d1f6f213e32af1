// Package sum is layer 1, checksums (CRC-32C); see shared/doc/01-sum.md.
package sum

import "bytes"

// polynomial is what the register is combined with when a 1 is shifted out. As in all numbers here that stand for a
// polynomial, the highest bit belongs to the power 0.
const polynomial = 0x82F63B78

// size is the number of bytes of a checksum.
const size = 4

// Sum returns the checksum of the bytes of all parts, in order.
func Sum(parts ...[]byte) uint32 {
	return ^feed(^uint32(0), parts...)
}

// More returns the checksum of any bytes with the checksum sum, followed by b.
func More(sum uint32, b []byte) uint32 {
	return ^feed(^sum, b)
}

// Join returns the checksum of any bytes with the checksum a, followed by any n bytes with the checksum b.
// A negative n counts as 0.
func Join(a, b uint32, n int) uint32 {
	return multiply(a, zeros(n)) ^ b
}

// Seal returns the bytes of b, followed by their checksum.
func Seal(b []byte) []byte {
	s := Sum(b)
	// Without spare capacity, append cannot write behind the caller's slice.
	return append(b[:len(b):len(b)], byte(s), byte(s>>8), byte(s>>16), byte(s>>24))
}

// Open returns the bytes that were sealed, or false if b are no sealed bytes.
func Open(b []byte) ([]byte, bool) {
	n := len(b) - size
	if n < 0 {
		return nil, false
	}
	sealed := Seal(b[:n:n])
	if !bytes.Equal(sealed, b) {
		return nil, false
	}
	return sealed[:n:n], true
}

// shift shifts a register by one bit, which multiplies it as a polynomial by x.
func shift(r uint32) uint32 {
	if r&1 != 0 {
		return r>>1 ^ polynomial
	}
	return r >> 1
}

// table holds, for each half of a byte, what shifting it out leaves of it in the register.
type table [16]uint32

// newTable is called for every checksum, so the table is of halves of bytes: one of whole bytes would cost more than
// feeding a short record does.
func newTable() table {
	var t table
	fill := func(i int) {
		r := uint32(i)
		for range 4 {
			r = shift(r)
		}
		t[i] = r
	}
	for i := range t {
		fill(i)
	}
	return t
}

// feed returns the register after feeding the bytes of all parts.
func feed(r uint32, parts ...[]byte) uint32 {
	t := newTable()
	for _, b := range parts {
		for _, x := range b {
			r ^= uint32(x)
			r = r>>4 ^ t[r&15]
			r = r>>4 ^ t[r&15]
		}
	}
	return r
}

// multiply returns the product of two polynomials, modulo the polynomial of the checksum.
func multiply(a, b uint32) uint32 {
	var p uint32
	for bit := uint32(1) << 31; bit != 0; bit >>= 1 {
		if a&bit != 0 {
			p ^= b
		}
		b = shift(b)
	}
	return p
}

// zeros returns x to the power of 8n: what feeding n bytes that are 0 multiplies a register by.
func zeros(n int) uint32 {
	power := uint32(1) << 31        // x to the power of 0
	square := uint32(1) << (31 - 8) // x to the power of 8
	for ; n > 0; n >>= 1 {
		if n&1 != 0 {
			power = multiply(power, square)
		}
		square = multiply(square, square)
	}
	return power
}
