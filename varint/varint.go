// Package varint is layer 1: numbers as few bytes.
package varint

import (
	"iter"
	"strings"

	"stagecoach/api"
)

const (
	longest = 10  // bytes of a number: 64 bits in sevens
	more    = 128 // in a byte: another one follows
)

// Put is a number's bytes.
func Put(n uint64) string {
	var room [longest]byte
	b := room[:0]
	for seven, last := range sevens(n) {
		if !last {
			seven |= more
		}
		b = append(b, seven)
	}
	return string(b)
}

// Size is how many bytes a number has.
func Size(n uint64) int {
	size := 0
	for range sevens(n) {
		size++
	}
	return size
}

// sevens are a number's sevens, the lowest ones first, each with whether it is the last one.
func sevens(n uint64) iter.Seq2[byte, bool] {
	return func(yield func(byte, bool) bool) {
		for rest := n; ; rest >>= 7 {
			last := rest < more
			if !yield(byte(rest)&^more, last) || last {
				return
			}
		}
	}
}

// Get is the number at a place, and the place behind it.
func Get(s string, at int) (uint64, int, api.Errno) {
	if at < 0 || at > len(s) {
		return 0, 0, api.ErrArg
	}
	var n uint64
	// The tenth byte is a last one or refused, so this ends there.
	for i := 0; ; i++ {
		if at+i == len(s) {
			return 0, 0, api.ErrVarintShort
		}
		b := s[at+i]
		if tooLong(i, b) {
			return 0, 0, api.ErrVarintLong
		}
		n |= uint64(b&^more) << (7 * i)
		if b < more {
			return n, at + i + 1, api.OK
		}
	}
}

// tooLong tells whether a number can't have byte b as the one behind i others: it would have more than 64 bits, or fewer bytes would do.
func tooLong(i int, b byte) bool {
	return i == longest-1 && b > 1 || i > 0 && b == 0
}

// Zig is a number with a sign as one without: the sign goes to the lowest bit, so that small numbers of either sign have few bytes.
func Zig(n int64) uint64 {
	// The shift to the right fills up with the sign: all bits of a negative one are turned.
	return uint64(n)<<1 ^ uint64(n>>63)
}

// Zag is the number whose Zig it is.
func Zag(n uint64) int64 {
	return int64(n>>1) ^ -int64(n&1)
}

// PutText is a text's bytes, its length ahead.
func PutText(s string) string {
	return Put(uint64(len(s))) + s
}

// GetText is the text at a place, and the place behind it.
func GetText(s string, at, most int) (string, int, api.Errno) {
	n, from, e := Get(s, at)
	if e != api.OK {
		return "", 0, e
	}
	// Held against each other without signs: a length may be greater than every int.
	if most < 0 || n > uint64(most) {
		return "", 0, api.ErrBig
	}
	if n > uint64(len(s)-from) {
		return "", 0, api.ErrVarintShort
	}
	to := from + int(n)
	// A clone, so that a short text doesn't keep all that it was cut from.
	return strings.Clone(s[from:to]), to, api.OK
}
