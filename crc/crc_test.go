package crc_test

import (
	"hash/crc32"
	"math"
	"strings"
	"testing"
	"transhumance/crc"
)

// sums are checksums at the edges and between them.
var sums = []int{0, 1, 2, 127, 128, 255, 256, 257, 1<<16 - 1, 1 << 24, 0x12345678, 0xEDB88320, 1<<31 - 1, 1 << 31, 1<<32 - 256, 1<<32 - 2, 1<<32 - 1}

// noSums are numbers that are no checksums.
var noSums = []int{-1, -2, -255, -256, -1 << 31, -1 << 32, math.MinInt, math.MinInt + 1, 1 << 32, 1<<32 + 1, 1<<32 + 255, 1 << 33, 1<<48 - 1, 1 << 62, math.MaxInt}

// texts are strings of many lengths, with zeros, set bits and text at both ends.
func texts() []string {
	all := []string{"", "\x00", "\xff", "a", "ab", "abc", "\x00\x00\x00\x00", "\xff\xff\xff\xff", "123456789", "\x80\x00\x00\x00\x01", "h\u00e9\u6f22\U0001F411", "\xff\xfe\xfd"}
	for _, many := range []int{7, 8, 31, 32, 33, 255, 256, 257} {
		all = append(all, strings.Repeat("\x00", many), mixed(many))
	}
	return all
}

// mixed makes a string of many bytes in which all bytes occur, in no plain order.
func mixed(many int) string {
	s := make([]byte, many)
	x := uint32(many)
	for i := range s {
		x = x*1664525 + 1013904223
		s[i] = byte(x >> 24)
	}
	return string(s)
}

func wantOf(t *testing.T, s string, sum int) {
	t.Helper()
	if got := crc.Of(s); got != sum {
		t.Errorf("Of(%.40q), %d bytes: %#x, want %#x", s, len(s), got, sum)
	}
}

func wantRoll(t *testing.T, sum int, s string, want int) {
	t.Helper()
	if got := crc.Roll(sum, s); got != want {
		t.Errorf("Roll(%#x, %.40q), %d bytes: %#x, want %#x", sum, s, len(s), got, want)
	}
}

// library is the checksum as the library of the language has it.
func library(sum int, s string) int {
	return int(crc32.Update(uint32(sum), crc32.IEEETable, []byte(s)))
}

// P2.1
func TestOfKnown(t *testing.T) {
	for _, c := range []struct {
		s   string
		sum int
	}{
		{"", 0},
		{"a", 0xE8B7BE43},
		{"abc", 0x352441C2},
		{"123456789", 0xCBF43926},
		{"The quick brown fox jumps over the lazy dog", 0x414FA339},
		{"\x00", 0xD202EF8D},
		{"\xff", 0xFF000000},
		{"\x00\x00\x00\x00", 0x2144DF1C},
		{"\xff\xff\xff\xff", 0xFFFFFFFF},
		{"\x9d\x0a\xd9\x6d", 0}, // a string that is not empty may have the empty one's checksum
		{strings.Repeat("\x00", 32), 0x190A55AD},
		{strings.Repeat("\xff", 32), 0xFF6CAB0B},
	} {
		wantOf(t, c.s, c.sum)
	}
}

// P2.1
func TestEveryByte(t *testing.T) {
	for b := range 256 {
		s := string([]byte{byte(b)})
		for _, sum := range sums {
			wantRoll(t, sum, s, library(sum, s))
		}
	}
	for low := range 256 { // each remainder is taken by each byte
		wantRoll(t, 1<<32-1-low, "\x5a", library(1<<32-1-low, "\x5a"))
	}
}

// P2.1
func TestRoll(t *testing.T) {
	for _, s := range texts() {
		for _, sum := range sums {
			wantRoll(t, sum, s, library(sum, s))
		}
	}
}

// P2.1
func TestRollNothing(t *testing.T) {
	for _, sum := range sums {
		wantRoll(t, sum, "", sum)
	}
}

// P2.1
func TestRollNoSum(t *testing.T) {
	for _, sum := range noSums {
		for _, s := range texts() {
			wantRoll(t, sum, s, 0)
		}
	}
}

// P2.1
func TestOf(t *testing.T) {
	for _, s := range texts() {
		wantOf(t, s, crc.Roll(0, s))
		wantOf(t, s, library(0, s))
	}
}

// P2.1
func TestLong(t *testing.T) {
	for _, many := range []int{1<<16 - 1, 1<<20 + 3, 1 << 23} {
		for _, s := range []string{strings.Repeat("\x00", many), mixed(many)} {
			wantOf(t, s, library(0, s))
			wantRoll(t, 1<<32-1, s, library(1<<32-1, s))
		}
	}
}

// R3: what was asked before, and refused before, leaves no trace.
func TestNothingKept(t *testing.T) {
	for _, before := range texts() {
		crc.Roll(-1, before)
		crc.Roll(77, before)
		wantOf(t, "123456789", 0xCBF43926)
		wantOf(t, "", 0)
	}
}

// wantJoined: the second string continues the checksum of the first one.
func wantJoined(t *testing.T, s, u string) {
	t.Helper()
	wantRoll(t, crc.Of(s), u, crc.Of(s+u))
}

// P2.2
func TestJoined(t *testing.T) {
	for _, s := range texts() {
		for _, u := range texts() {
			wantJoined(t, s, u)
		}
	}
	s := mixed(300)
	for cut := range len(s) + 1 {
		wantJoined(t, s[:cut], s[cut:])
	}
	sum := 0
	for i := range len(s) {
		sum = crc.Roll(sum, s[i:i+1])
	}
	wantOf(t, s, sum)
}

// flip changes the bits of s that mask tells, from bit from on; each byte's bits are counted from the lowest one, as the checksum takes them.
func flip(s string, from int, mask uint32) string {
	b := []byte(s)
	for i := range 32 {
		if mask>>i&1 == 1 {
			b[(from+i)/8] ^= 1 << ((from + i) % 8)
		}
	}
	return string(b)
}

// wantOther: a change within 32 adjacent bits changes the checksum.
func wantOther(t *testing.T, s string, from int, mask uint32) {
	t.Helper()
	if crc.Of(flip(s, from, mask)) == crc.Of(s) {
		t.Errorf("%.40q, %d bytes: bits %#x from bit %d on changed, the checksum did not", s, len(s), mask, from)
	}
}

// P2.2
func TestChanged(t *testing.T) {
	for _, s := range []string{"\x00\x00\x00\x00", "abcd", "12345", "\xff\xff\xff\xff\xff", mixed(9), mixed(40)} {
		for from := range 8*len(s) - 31 {
			for i := range 32 {
				wantOther(t, s, from, 1<<i)
				wantOther(t, s, from, math.MaxUint32<<i)
				wantOther(t, s, from, 1<<31|1<<i)
			}
			mask := uint32(from)
			for range 50 {
				mask = mask*1664525 + 1013904223
				wantOther(t, s, from, mask|1)
			}
		}
	}
}

// rank is how many of 32 changes can't be composed of others.
func rank(changes [32]int) int {
	var heads [32]int // by their highest bits
	many := 0
	for _, x := range changes {
		for bit := 31; bit >= 0 && x != 0; bit-- {
			switch {
			case x>>bit&1 == 0:
			case heads[bit] == 0:
				heads[bit] = x
				many++
				x = 0
			default:
				x ^= heads[bit]
			}
		}
	}
	return many
}

// P2.2: the checksum's change is composed of the single bits' changes, so that all changes of 32 bits are covered if no bit's is composed of other bits'.
func TestChangedAtAll(t *testing.T) {
	for _, s := range []string{strings.Repeat("\x00", 5), mixed(24), mixed(700)} {
		whole := crc.Of(s)
		for from := range 8*len(s) - 31 {
			var changes [32]int
			for i := range changes {
				changes[i] = crc.Of(flip(s, from, 1<<i)) ^ whole
			}
			if many := rank(changes); many != 32 {
				t.Fatalf("%d bytes: the 32 bits from bit %d on have only %d changes of their own", len(s), from, many)
			}
		}
	}
}

// P2.1, P2.2
func FuzzRoll(f *testing.F) {
	for i, s := range texts() {
		f.Add(sums[i%len(sums)], s, "z"+s)
		f.Add(noSums[i%len(noSums)], s, "")
	}
	f.Fuzz(func(t *testing.T, sum int, s, u string) {
		want := 0
		if sum >= 0 && sum < 1<<32 {
			want = library(sum, s)
		}
		wantRoll(t, sum, s, want)
		wantJoined(t, s, u)
	})
}
