// Package checksum implements CRC-32C sums and sealed texts.
package checksum

import "dasd/api"

// polynomial is that of Castagnoli. As in all registers, the highest bit is the coefficient of the power 0.
const polynomial = 0x82f63b78

// sumBytes is the number of bytes of a sum.
const sumBytes = 4

// Sum returns the sum of bytes.
func Sum(s string) uint32 { return Update(0, s) }

// Update continues a sum with further bytes.
func Update(sum uint32, s string) uint32 {
	table := remainders()
	shift := func(register uint32) uint32 { return register>>4 ^ table[register&15] }
	register := ^sum
	for i := range len(s) {
		register = shift(shift(register ^ uint32(s[i])))
	}
	return ^register
}

// Combine returns the sum of two texts, one behind the other, from their sums; n is the length of the second one.
func Combine(a, b uint32, n int) uint32 {
	// Shifting by one byte multiplies by the power 8. Squaring takes few steps, however long the second text is.
	power := uint32(1) << (31 - 8)
	for ; n > 0; n >>= 1 {
		if n&1 == 1 {
			a = multiply(a, power)
		}
		power = multiply(power, power)
	}
	return a ^ b
}

// Seal returns bytes followed by their sum.
func Seal(s string) string { return s + Bytes(Sum(s)) }

// Open returns the bytes of a sealed text.
func Open(s string) (string, api.Errno) {
	if len(s) < sumBytes {
		return "", api.ErrCorrupt
	}
	text, sum := s[:len(s)-sumBytes], s[len(s)-sumBytes:]
	if sum != Bytes(Sum(text)) {
		return "", api.ErrCorrupt
	}
	return text, api.OK
}

// Number returns the number that four bytes contain, least significant first; others contain 0.
func Number(s string) uint32 {
	if len(s) != sumBytes {
		return 0
	}
	return uint32(s[0]) | uint32(s[1])<<8 | uint32(s[2])<<16 | uint32(s[3])<<24
}

// Bytes returns the four bytes of a number, least significant first.
func Bytes(n uint32) string {
	return string([]byte{byte(n), byte(n >> 8), byte(n >> 16), byte(n >> 24)})
}

// remainders returns what 4 bits that fall out of a register leave in it. With 16 entries the table is built anew for each sum at little cost: most texts are as short as a sector.
func remainders() [16]uint32 {
	var table [16]uint32
	for i := range table {
		register := uint32(i)
		for range 4 {
			register = shiftBit(register)
		}
		table[i] = register
	}
	return table
}

// shiftBit shifts a register by one bit.
func shiftBit(register uint32) uint32 {
	if register&1 == 1 {
		return register>>1 ^ polynomial
	}
	return register >> 1
}

// multiply returns the product of two registers, as polynomials modulo that of the sums.
func multiply(a, b uint32) uint32 {
	product := uint32(0)
	for ; a != 0; a <<= 1 {
		if a>>31 == 1 {
			product ^= b
		}
		b = shiftBit(b)
	}
	return product
}
