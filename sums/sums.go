// Package sums: the two checks of bytes, sum and seal, of DOC.md.
package sums

// The polynomials over bits, written as the document writes them: the bit k is x^k.
const (
	sumPolynomial = 1<<32 | 1<<26 | 1<<23 | 1<<22 | 1<<16 | 1<<12 | 1<<11 | 1<<10 |
		1<<8 | 1<<7 | 1<<5 | 1<<4 | 1<<2 | 1<<1 | 1
	sealPolynomial = 1<<32 | 1<<28 | 1<<27 | 1<<26 | 1<<25 | 1<<23 | 1<<22 | 1<<20 |
		1<<19 | 1<<18 | 1<<14 | 1<<13 | 1<<11 | 1<<10 | 1<<9 | 1<<8 | 1<<6 | 1
)

// ones are 32 bits that are all set.
const ones = 1<<32 - 1

// Sum is the sum of some bytes, 0 to 4294967295.
func Sum(s string) int {
	return remainder(s, sumPolynomial)
}

// Seal is the seal of some bytes, 0 to 4294967295.
func Seal(s string) int {
	return remainder(s, sealPolynomial)
}

// remainder begins with ones instead of noughts: this turns over the first 32
// bits, and with fewer the noughts behind them, without laying them out.
func remainder(s string, polynomial int) int {
	left := ones
	for i := 0; i < len(s); i++ {
		left = left ^ int(s[i])<<24
		left = divideByte(left, polynomial)
	}
	return left ^ ones
}

// divideByte carries the division on by eight bits. The polynomial has the bit
// 32, so it takes away the bit that the shift brings there: left stays below 2^32.
func divideByte(left int, polynomial int) int {
	for bit := 0; bit < 8; bit++ {
		left = left << 1
		if left > ones {
			left = left ^ polynomial
		}
	}
	return left
}
