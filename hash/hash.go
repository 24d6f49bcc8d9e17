// Package hash names contents: see the document's chapter 1.
package hash

import (
	"math/bits"
	"strings"
)

const (
	hexDigits  = "0123456789abcdef"
	nameLen    = 40
	minPrefix  = 4
	blockSize  = 64
	lengthSize = 8
	rounds     = 80
)

// state is FIPS 180-4's hash value H, five words of 32 bits.
type state [5]uint32

// Sum answers the SHA-1 of s as 40 hexadecimal digits.
func Sum(s string) string {
	h := state{0x67452301, 0xefcdab89, 0x98badcfe, 0x10325476, 0xc3d2e1f0}
	whole := len(s) - len(s)%blockSize
	for at := 0; at < whole; at += blockSize {
		h = h.mix(s[at : at+blockSize])
	}
	// Only the rest is copied for the padding: s can be long.
	tail := pad(s[whole:], uint64(len(s)))
	for at := 0; at < len(tail); at += blockSize {
		h = h.mix(tail[at : at+blockSize])
	}
	return h.hex()
}

// Is tells whether s is a name: 40 digits 0 to 9, a to f.
func Is(s string) bool {
	if len(s) != nameLen {
		return false
	}
	for i := range len(s) {
		if strings.IndexByte(hexDigits, s[i]) < 0 {
			return false
		}
	}
	return true
}

// Prefix answers the one of names that begins with p, if p is long enough and no unlike one begins so.
func Prefix(names []string, p string) (string, bool) {
	if len(p) < minPrefix {
		return "", false
	}
	found, ok := "", false
	for _, name := range names {
		if !strings.HasPrefix(name, p) {
			continue
		}
		if ok && name != found {
			return "", false
		}
		found, ok = name, true
	}
	// The answer shares no memory with names.
	return strings.Clone(found), ok
}

// pad fills rest, the end of a text of total bytes, up to whole blocks: a bit 1, zeros, the text's length in bits.
func pad(rest string, total uint64) string {
	size := blockSize
	if len(rest)+1+lengthSize > blockSize {
		size = 2 * blockSize
	}
	tail := make([]byte, size)
	copy(tail, rest)
	tail[len(rest)] = 0x80
	length := total * 8
	for i := range lengthSize {
		tail[size-1-i] = byte(length >> (8 * i))
	}
	return string(tail)
}

// mix answers the state after one more block of 64 bytes.
func (h state) mix(block string) state {
	w := schedule(block)
	a, b, c, d, e := h[0], h[1], h[2], h[3], h[4]
	for t := range rounds {
		f, k := step(t, b, c, d)
		next := bits.RotateLeft32(a, 5) + f + e + k + w[t]
		a, b, c, d, e = next, a, bits.RotateLeft32(b, 30), c, d
	}
	return state{h[0] + a, h[1] + b, h[2] + c, h[3] + d, h[4] + e}
}

// schedule spreads a block's 16 words over all rounds.
func schedule(block string) [rounds]uint32 {
	var w [rounds]uint32
	for i := range 16 {
		w[i] = uint32(block[4*i])<<24 | uint32(block[4*i+1])<<16 | uint32(block[4*i+2])<<8 | uint32(block[4*i+3])
	}
	for t := 16; t < rounds; t++ {
		w[t] = bits.RotateLeft32(w[t-3]^w[t-8]^w[t-14]^w[t-16], 1)
	}
	return w
}

// step answers the function's value and the constant of round t.
func step(t int, b, c, d uint32) (f, k uint32) {
	switch {
	case t < 20:
		return b&c | ^b&d, 0x5a827999
	case t < 40:
		return b ^ c ^ d, 0x6ed9eba1
	case t < 60:
		return b&c | b&d | c&d, 0x8f1bbcdc
	}
	return b ^ c ^ d, 0xca62c1d6
}

// hex writes the words, the highest four bits first.
func (h state) hex() string {
	digits := make([]byte, 0, nameLen)
	for _, word := range h {
		for shift := 28; shift >= 0; shift -= 4 {
			digits = append(digits, hexDigits[word>>shift&15])
		}
	}
	return string(digits)
}
