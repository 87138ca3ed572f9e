// Package crc is layer 1: sums of bytes (CRC-32C), and numbers as bytes. See shared/doc/01-crc.md.
package crc

// turn is what a word is turned by when a one falls out of it.
const turn = 0x82f63b78

// Sum: the sum of b.
func Sum(b []byte) uint32 { return More(0, b) }

// More: the sum of bytes whose sum is sum, and b behind them.
func More(sum uint32, b []byte) uint32 {
	behind := words()
	word := ^sum // a sum is told with all bits turned, so turned again it is the word to go on with
	for _, c := range b {
		word = word>>8 ^ behind[byte(word)^c]
	}
	return ^word
}

// words: for each byte the word that is behind it, out of a word that is that byte alone.
func words() [256]uint32 {
	var w [256]uint32
	for i := range 256 {
		low := i & -i
		if low == i {
			w[i] = shifted(uint32(i))
		} else {
			// Shifting and turning go through an exclusive or, so a byte's word is put together out of its bits' words: most of the shifts are saved, and the array is made anew for each sum.
			w[i] = w[i-low] ^ w[low]
		}
	}
	return w
}

// shifted: the word 8 shifts later.
func shifted(word uint32) uint32 {
	for range 8 {
		out := word & 1
		word >>= 1
		if out == 1 {
			word ^= turn
		}
	}
	return word
}

// Bytes: the n lowest bytes of v, the lowest first.
func Bytes(v uint64, n int) []byte {
	b := make([]byte, min(max(n, 0), 8))
	for i := range b {
		b[i] = byte(v >> (8 * i))
	}
	return b
}

// Number: the number that at most 8 bytes stand for, the lowest first.
func Number(b []byte) (uint64, bool) {
	if len(b) > 8 {
		return 0, false
	}
	var v uint64
	for i, c := range b {
		v |= uint64(c) << (8 * i)
	}
	return v, true
}
