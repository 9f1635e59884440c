// Package bits: words, bytes, turned: see doc/01-bits.md.
package bits

import (
	"sacristy/api"
)

const (
	wordBits   = 32
	maxBytes   = 8 // of a number that is put
	lengthSize = 2 // bytes of a text's length
	maxText    = 1<<(8*lengthSize) - 1
)

// Rotl: see the chapter.
func Rotl(x uint32, n int) uint32 {
	// The lowest bits of n are n modulo 32 below 0 too: no sign to ask for, no number that can't be negated.
	left := uint(n) % wordBits
	return x<<left | x>>(wordBits-left)
}

// Rotr: see the chapter.
func Rotr(x uint32, n int) uint32 {
	right := uint(n) % wordBits
	return x>>right | x<<(wordBits-right)
}

// Big: see the chapter.
func Big(b []byte) uint32 {
	w := firstFour(b)
	return uint32(w[0])<<24 | uint32(w[1])<<16 | uint32(w[2])<<8 | uint32(w[3])
}

// Little: see the chapter.
func Little(b []byte) uint32 {
	w := firstFour(b)
	return uint32(w[3])<<24 | uint32(w[2])<<16 | uint32(w[1])<<8 | uint32(w[0])
}

// PutBig: see the chapter.
func PutBig(x uint32) [4]byte {
	return [4]byte{byte(x >> 24), byte(x >> 16), byte(x >> 8), byte(x)}
}

// PutLittle: see the chapter.
func PutLittle(x uint32) [4]byte {
	return [4]byte{byte(x), byte(x >> 8), byte(x >> 16), byte(x >> 24)}
}

// Put: see the chapter.
func Put(b []byte, n uint64, bytes int) []byte {
	size := held(bytes)
	out := longer(b, size)
	putNumber(out[len(b):], n)
	return out
}

// Get: see the chapter.
func Get(b []byte, bytes int) (uint64, []byte, api.Errno) {
	size := held(bytes)
	if len(b) < size {
		return 0, longer(b, 0), api.ErrShort
	}
	return number(b[:size]), longer(b[size:], 0), api.OK
}

// Text: see the chapter.
func Text(b []byte, s string) []byte {
	s = s[:min(len(s), maxText)]
	out := longer(b, lengthSize+len(s))
	added := out[len(b):]
	putNumber(added[:lengthSize], uint64(len(s)))
	copy(added[lengthSize:], s)
	return out
}

// GetText: see the chapter.
func GetText(b []byte, most int) (string, []byte, api.Errno) {
	// A length that isn't whole is above nothing: it is short, whatever most is.
	if len(b) < lengthSize {
		return "", longer(b, 0), api.ErrShort
	}
	size := int(number(b[:lengthSize]))
	if size > most {
		return "", longer(b, 0), api.ErrLong
	}
	end := lengthSize + size
	if len(b) < end {
		return "", longer(b, 0), api.ErrShort
	}
	return string(b[lengthSize:end]), longer(b[end:], 0), api.OK
}

// Xor: see the chapter.
func Xor(a, b []byte) []byte {
	out := make([]byte, min(len(a), len(b)))
	for i := range out {
		out[i] = a[i] ^ b[i]
	}
	return out
}

func firstFour(b []byte) [4]byte {
	var w [4]byte
	copy(w[:], b)
	return w
}

func held(bytes int) int {
	return min(max(bytes, 0), maxBytes)
}

// longer is b and more noughts, always in new memory: append might write into the room behind b.
func longer(b []byte, more int) []byte {
	out := make([]byte, len(b)+more)
	copy(out, b)
	return out
}

func putNumber(to []byte, n uint64) {
	for i := len(to) - 1; i >= 0; i-- {
		to[i] = byte(n)
		n >>= 8
	}
}

func number(b []byte) uint64 {
	n := uint64(0)
	for _, c := range b {
		n = n<<8 | uint64(c)
	}
	return n
}
