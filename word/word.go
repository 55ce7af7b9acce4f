// Package word is layer 1: bits, bytes, words of two bytes, and their
// hexadecimal digits. See shared/doc/01-word.md.
package word

import (
	"whirligig/api"
)

const (
	bits      = 8 // of a byte
	maxDigits = 4 // of a word
	hexDigits = "0123456789ABCDEF"
)

// Bit tells whether bit n is 1.
func Bit(v uint8, n int) bool {
	return isBit(n) && v&(1<<n) != 0
}

// Put is v with bit n as told.
func Put(v uint8, n int, on bool) uint8 {
	switch {
	case !isBit(n):
		return v
	case on:
		return v | 1<<n
	default:
		return v &^ (1 << n)
	}
}

// isBit is asked ahead of each shift, for a shift by less than 0 panics.
func isBit(n int) bool {
	return 0 <= n && n < bits
}

// Join puts two bytes together.
func Join(hi, lo uint8) uint16 {
	return uint16(hi)<<bits | uint16(lo)
}

// Split takes a word apart, its high byte first.
func Split(w uint16) (uint8, uint8) {
	return uint8(w >> bits), uint8(w)
}

// Signed is a byte as a number from -128 to 127.
func Signed(v uint8) int {
	return int(int8(v))
}

// Turn moves each bit up by n places, round and round.
func Turn(v uint8, n int) uint8 {
	// The mask is modulo 8 also below 0, and keeps the sum with k from
	// running over.
	by := n & (bits - 1)
	var turned uint8
	for k := range bits {
		turned = Put(turned, (k+by)%bits, Bit(v, k))
	}
	return turned
}

// Mirror turns a byte's bits about.
func Mirror(v uint8) uint8 {
	var mirrored uint8
	for k := range bits {
		mirrored = Put(mirrored, bits-1-k, Bit(v, k))
	}
	return mirrored
}

// Ones counts the bits that are 1.
func Ones(v uint8) int {
	count := 0
	for k := range bits {
		if Bit(v, k) {
			count++
		}
	}
	return count
}

// Hex8 writes a byte.
func Hex8(v uint8) string {
	return string([]byte{hexDigits[v>>4], hexDigits[v&15]})
}

// Hex16 writes a word.
func Hex16(w uint16) string {
	hi, lo := Split(w)
	return Hex8(hi) + Hex8(lo)
}

// Read takes so many digits.
func Read(s string, digits int) (uint16, api.Errno) {
	if digits < 1 || digits > maxDigits {
		return 0, api.ErrArg
	}
	// Each digit is one byte, so a text of another length needs no look at
	// what is in it.
	if len(s) != digits {
		return 0, api.ErrText
	}
	var w uint16
	for _, r := range s {
		d, ok := digit(r)
		if !ok {
			return 0, api.ErrText
		}
		w = w<<4 | d
	}
	return w, api.OK
}

// digit tells what a single digit is worth, and whether it is one.
func digit(r rune) (uint16, bool) {
	switch {
	case '0' <= r && r <= '9':
		return uint16(r - '0'), true
	case 'A' <= r && r <= 'F':
		return uint16(r-'A') + 10, true
	case 'a' <= r && r <= 'f':
		return uint16(r-'a') + 10, true
	}
	return 0, false
}
