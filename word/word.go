// Package word is layer 1: see shared/doc/01-word.md.
package word

import (
	"math/bits"

	"carrack/api"
)

const (
	grain     = 16 // blocks' sizes are multiples of it, so that a tag's low bits are free
	least     = 8  // a block of fewer bytes still has a word
	bytesWord = 8

	mixer    = 0x9E3779B97F4A7C15 // odd, so that no two numbers have one product
	hashFrom = 14695981039346656037
	hashBy   = 1099511628211
)

// Add and Mul are a sum and a product, Up the least multiple of a power of two that is not below a number; false: it is too large.
func Add(a, b uint64) (uint64, bool) {
	sum, carry := bits.Add64(a, b, 0)
	if carry != 0 {
		return 0, false
	}
	return sum, true
}

func Mul(a, b uint64) (uint64, bool) {
	high, low := bits.Mul64(a, b)
	if high != 0 {
		return 0, false
	}
	return low, true
}

func Up(n, a uint64) (uint64, bool) {
	if bits.OnesCount64(a) != 1 {
		return 0, false
	}
	// The sum is too large just if the multiple is, as 2^64 is a multiple of a, too.
	sum, ok := Add(n, a-1)
	if !ok {
		return 0, false
	}
	return sum &^ (a - 1), true
}

// Need is how large a block of so many bytes is, Words how many words these are.
func Need(n uint64) (uint64, bool) {
	sum, ok := Add(max(n, least), api.Over)
	if !ok {
		return 0, false
	}
	return Up(sum, grain)
}

func Words(n uint64) uint64 {
	words := n / bytesWord
	if n%bytesWord != 0 { // rounding n up first would be too large at the end
		words++
	}
	return words
}

// Mix is a block's rank in a tree, Hash a name's number.
func Mix(off uint64) uint64 { return off * mixer }

func Hash(s string) uint64 {
	h := uint64(hashFrom)
	for i := range len(s) {
		h = (h ^ uint64(s[i])) * hashBy
	}
	return h
}

// Pack is a name as two words, Name two words as one.
func Pack(s string) ([2]uint64, bool) {
	var w [2]uint64
	if len(s) == 0 || len(s) > api.MaxName {
		return w, false
	}
	lay := func(i int, b byte) {
		w[i/bytesWord] |= uint64(b) << (8 * (i % bytesWord))
	}
	lay(0, byte(len(s)))
	for i := range len(s) {
		lay(i+1, s[i])
	}
	return w, true
}

func Name(w [2]uint64) (string, bool) {
	at := func(i int) byte {
		return byte(w[i/bytesWord] >> (8 * (i % bytesWord)))
	}
	n := int(at(0))
	if n > api.MaxName {
		return "", false
	}
	b := make([]byte, n)
	for i := range n {
		b[i] = at(i + 1)
	}
	// Packing it again finds what stands behind the name but should be 0.
	s := string(b)
	if again, ok := Pack(s); !ok || again != w {
		return "", false
	}
	return s, true
}
