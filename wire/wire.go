// Package wire is layer 1: numbers as varints or four bytes, and strings with their length.
package wire

import (
	"transhumance/api"
)

// Put returns the varint of n, or the empty string if n has none.
func Put(n int) string {
	if n < 0 || n > api.MaxNumber {
		return ""
	}
	var groups []byte
more:
	if n > 127 {
		groups = append(groups, byte(n%128+128))
		n /= 128
		goto more
	}
	return string(append(groups, byte(n)))
}

// Get returns the number whose varint stands in s at at, and the position after it.
func Get(s string, at int) (int, int, api.Errno) {
	if at < 0 || at > len(s) {
		return 0, at, api.ErrArg
	}
	n, many := 0, 0
next:
	if at+many == len(s) {
		return 0, at, api.ErrCut
	}
	b := int(s[at+many])
	if e := flaw(b, many); e != api.OK {
		return 0, at, e
	}
	n += b % 128 << (7 * many)
	many++
	if b > 127 {
		goto next
	}
	return n, at + many, api.OK
}

// flaw tells what is wrong with the byte b of a varint, place bytes after its first one.
func flaw(b, place int) api.Errno {
	switch {
	case place == 7:
		return api.ErrWide
	case place == 6 && b >= 64 && b <= 127: // six groups hold 42 bits: 6 are left
		return api.ErrWide
	case place > 0 && b == 0:
		return api.ErrLoose
	}
	return api.OK
}

// PutFixed returns the four bytes of n, or the empty string if n does not fit.
func PutFixed(n int) string {
	if n < 0 || n > 1<<32-1 {
		return ""
	}
	var four [4]byte
	for i := range len(four) {
		four[i] = byte(n >> (8 * i))
	}
	return string(four[:])
}

// GetFixed returns the number whose four bytes stand in s at at, and the position after them.
func GetFixed(s string, at int) (int, int, api.Errno) {
	var four [4]byte
	if at < 0 || at > len(s) {
		return 0, at, api.ErrArg
	}
	if copy(four[:], s[at:]) < len(four) {
		return 0, at, api.ErrCut
	}
	n := 0
	for i := range len(four) {
		n += int(four[i]) << (8 * i)
	}
	return n, at + len(four), api.OK
}

// PutText returns t behind its length, or the empty string if t is too long.
func PutText(t string) string {
	if len(t) > api.MaxBytes {
		return ""
	}
	return Put(len(t)) + t
}
