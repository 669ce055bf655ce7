// Package words is layer 1: see shared/doc/01-words.md.
package words

import "escritoire/api"

const (
	wordBits  = 64
	wordBytes = 8
	byteBits  = 8

	// maxText is the most words that a text may be laid out in.
	maxText = 64

	hashStart = 14695981039346656037
	hashTimes = 1099511628211
)

// Get answers the value of a field.
func Get(w uint64, at, width int) (uint64, api.Errno) {
	if !mayBe(at, width) {
		return 0, api.ErrArg
	}
	return w >> uint(at) & ones(width), api.OK
}

// Put answers the word with v as the value of a field.
func Put(w uint64, at, width int, v uint64) (uint64, api.Errno) {
	if !mayBe(at, width) {
		return 0, api.ErrArg
	}
	if v > ones(width) {
		return 0, api.ErrRange
	}
	return w&^(ones(width)<<uint(at)) | v<<uint(at), api.OK
}

// mayBe holds the width against what is left behind at, as at + width could wrap round.
func mayBe(at, width int) bool {
	return at >= 0 && width >= 1 && width <= wordBits-at
}

// ones answers a word whose lowest width bits, 1 to 64, are set.
func ones(width int) uint64 {
	return ^uint64(0) >> uint(wordBits-width)
}

// Text answers a text as n words, the first byte lowest.
func Text(s string, n int) ([]uint64, api.Errno) {
	if n < 0 || n > maxText {
		return nil, api.ErrArg
	}
	if len(s) > n*wordBytes {
		return nil, api.ErrRange
	}
	l := make([]uint64, n)
	for i := range len(s) {
		l[i/wordBytes] |= uint64(s[i]) << place(i)
	}
	return l, api.OK
}

// Untext answers the first n bytes of words as a text.
func Untext(l []uint64, n int) (string, api.Errno) {
	if n < 0 || n > len(l)*wordBytes {
		return "", api.ErrArg
	}
	b := make([]byte, n)
	for i := range b {
		b[i] = byte(l[i/wordBytes] >> place(i))
	}
	return string(b), api.OK
}

// place answers from which bit of its word on the byte i of a text lies.
func place(i int) uint {
	return uint(i%wordBytes) * byteBits
}

// Hash answers the text's hash (FNV-1a, 64 bits).
func Hash(s string) uint64 {
	h := uint64(hashStart)
	for i := range len(s) {
		h = (h ^ uint64(s[i])) * hashTimes
	}
	return h
}
