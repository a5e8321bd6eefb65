package wire_test

import (
	"math"
	"strings"
	"testing"
	"transhumance/api"
	"transhumance/wire"
)

// varints are numbers at the edges of each number of groups, with their encodings written out.
var varints = []struct {
	n int
	s string
}{
	{0, "\x00"},
	{1, "\x01"},
	{127, "\x7f"},
	{128, "\x80\x01"},
	{129, "\x81\x01"},
	{255, "\xff\x01"},
	{256, "\x80\x02"},
	{300, "\xac\x02"},
	{1<<14 - 1, "\xff\x7f"},
	{1 << 14, "\x80\x80\x01"},
	{1<<21 - 1, "\xff\xff\x7f"},
	{1 << 21, "\x80\x80\x80\x01"},
	{1<<28 - 1, "\xff\xff\xff\x7f"},
	{1 << 28, "\x80\x80\x80\x80\x01"},
	{1<<32 - 1, "\xff\xff\xff\xff\x0f"},
	{1<<35 - 1, "\xff\xff\xff\xff\x7f"},
	{1 << 35, "\x80\x80\x80\x80\x80\x01"},
	{1<<42 - 1, "\xff\xff\xff\xff\xff\x7f"},
	{1 << 42, "\x80\x80\x80\x80\x80\x80\x01"},
	{0x123456789abc, "\xbc\xb5\xe2\xb3\xc5\xc6\x04"},
	{1 << 47, "\x80\x80\x80\x80\x80\x80\x20"},
	{1<<48 - 2, "\xfe\xff\xff\xff\xff\xff\x3f"},
	{1<<48 - 1, "\xff\xff\xff\xff\xff\xff\x3f"},
}

// fixed are numbers of four bytes, with their encodings written out.
var fixed = []struct {
	n int
	s string
}{
	{0, "\x00\x00\x00\x00"},
	{1, "\x01\x00\x00\x00"},
	{255, "\xff\x00\x00\x00"},
	{256, "\x00\x01\x00\x00"},
	{1 << 16, "\x00\x00\x01\x00"},
	{1 << 24, "\x00\x00\x00\x01"},
	{0x12345678, "\x78\x56\x34\x12"},
	{1<<31 - 1, "\xff\xff\xff\x7f"},
	{1 << 31, "\x00\x00\x00\x80"},
	{1<<32 - 2, "\xfe\xff\xff\xff"},
	{1<<32 - 1, "\xff\xff\xff\xff"},
}

type getter func(s string, at int) (int, int, api.Errno)

func wantGet(t *testing.T, get getter, s string, at, n, after int, e api.Errno) {
	t.Helper()
	if gn, ga, ge := get(s, at); gn != n || ga != after || ge != e {
		t.Errorf("get %q at %d: got %d, %d, %d; want %d, %d, %d", s, at, gn, ga, ge, n, after, e)
	}
}

// wantPlace: a position that s does not have is ErrArg, and the position comes back as it was.
func wantPlace(t *testing.T, get getter) {
	t.Helper()
	for _, s := range []string{"", "\x00", "\x05\x00\x00\x00", "\x80\x80\x80\x80\x80\x80\x80\x80"} {
		for _, at := range []int{-1, -2, math.MinInt, len(s) + 1, len(s) + 2, math.MaxInt} {
			wantGet(t, get, s, at, 0, at, api.ErrArg)
		}
		wantGet(t, get, s, len(s), 0, len(s), api.ErrCut)
	}
}

// P1.1
func TestPut(t *testing.T) {
	for _, c := range varints {
		if s := wire.Put(c.n); s != c.s {
			t.Errorf("Put(%d): %q, want %q", c.n, s, c.s)
		}
	}
	for _, n := range []int{-1, -2, -128, -1 << 48, math.MinInt, 1 << 48, 1<<48 + 1, 1 << 49, 1 << 62, math.MaxInt} {
		if s := wire.Put(n); s != "" {
			t.Errorf("Put(%d): %q, want the empty string", n, s)
		}
	}
}

// P1.1
func TestGet(t *testing.T) {
	for _, c := range varints {
		for _, before := range []string{"", "a", "\x80", "\xff\xff\xff\xff\xff\xff\xff\xff"} {
			for _, behind := range []string{"", "\x00", "z", "\xff\xff\xff"} {
				at := len(before)
				wantGet(t, wire.Get, before+c.s+behind, at, c.n, at+len(c.s), api.OK)
			}
		}
	}
}

// P1.1
func TestGetPlace(t *testing.T) {
	wantPlace(t, wire.Get)
}

// P1.1
func TestGetCut(t *testing.T) {
	for many := range 8 { // seven bytes may stand there; only the eighth is too many
		for _, b := range []string{"\x80", "\x81", "\xc0", "\xff"} {
			s := strings.Repeat(b, many)
			wantGet(t, wire.Get, s, 0, 0, 0, api.ErrCut)
			wantGet(t, wire.Get, "ab"+s, 2, 0, 2, api.ErrCut)
		}
	}
	for _, c := range varints {
		for many := range len(c.s) {
			wantGet(t, wire.Get, c.s[:many], 0, 0, 0, api.ErrCut)
		}
	}
}

// P1.1
func TestGetSeventhByte(t *testing.T) {
	for _, six := range []string{strings.Repeat("\x80", 6), strings.Repeat("\xff", 6)} {
		low := 0
		if six[0] == 0xff {
			low = 1<<42 - 1
		}
		for b := range 256 {
			s := "x" + six + string([]byte{byte(b)})
			switch {
			case b == 0:
				wantGet(t, wire.Get, s, 1, 0, 1, api.ErrLoose)
			case b < 64:
				wantGet(t, wire.Get, s, 1, b<<42+low, 8, api.OK)
			case b < 128:
				wantGet(t, wire.Get, s, 1, 0, 1, api.ErrWide)
			default:
				wantGet(t, wire.Get, s, 1, 0, 1, api.ErrCut)
			}
		}
	}
}

// P1.1
func TestGetEighthByte(t *testing.T) {
	for b := range 256 {
		for _, seven := range []string{"\x80\x80\x80\x80\x80\x80\x80", "\xff\xff\xff\xff\xff\xff\xff", "\x81\x80\x80\x80\x80\x80\xc0"} {
			s := seven + string([]byte{byte(b)})
			wantGet(t, wire.Get, s, 0, 0, 0, api.ErrWide)
			wantGet(t, wire.Get, s+"\x00", 0, 0, 0, api.ErrWide)
			wantGet(t, wire.Get, "\x00"+s, 1, 0, 1, api.ErrWide)
		}
	}
	wantGet(t, wire.Get, strings.Repeat("\x80", 1<<16), 5, 0, 5, api.ErrWide)
}

// P1.1
func TestGetLoose(t *testing.T) {
	for many := 1; many < 7; many++ {
		for _, b := range []string{"\x80", "\x81", "\xff"} {
			s := strings.Repeat(b, many) + "\x00"
			wantGet(t, wire.Get, s, 0, 0, 0, api.ErrLoose)
			wantGet(t, wire.Get, "\x07"+s+"\x07", 1, 0, 1, api.ErrLoose)
		}
	}
	wantGet(t, wire.Get, "\x00\x00", 0, 0, 1, api.OK)
	wantGet(t, wire.Get, "\x80\x80\x01", 0, 1<<14, 3, api.OK) // a group of 0 that is not the last one
}

// P1.2
func TestPutFixed(t *testing.T) {
	for _, c := range fixed {
		if s := wire.PutFixed(c.n); s != c.s {
			t.Errorf("PutFixed(%d): %q, want %q", c.n, s, c.s)
		}
	}
	for _, n := range []int{-1, -256, -1 << 32, math.MinInt, 1 << 32, 1<<32 + 1, 1 << 40, math.MaxInt} {
		if s := wire.PutFixed(n); s != "" {
			t.Errorf("PutFixed(%d): %q, want the empty string", n, s)
		}
	}
}

// P1.2
func TestGetFixed(t *testing.T) {
	for _, c := range fixed {
		for _, before := range []string{"", "a", "\xff\xff\xff\xff\xff"} {
			for _, behind := range []string{"", "\x00", "\xff\xff\xff\xff"} {
				at := len(before)
				wantGet(t, wire.GetFixed, before+c.s+behind, at, c.n, at+4, api.OK)
			}
		}
	}
}

// P1.2
func TestGetFixedPlace(t *testing.T) {
	wantPlace(t, wire.GetFixed)
}

// P1.2
func TestGetFixedCut(t *testing.T) {
	for many := range 4 {
		s := strings.Repeat("\x01", many)
		wantGet(t, wire.GetFixed, s, 0, 0, 0, api.ErrCut)
		wantGet(t, wire.GetFixed, "abcde"+s, 5, 0, 5, api.ErrCut)
	}
	wantGet(t, wire.GetFixed, "\x01\x01\x01\x01\x01", 2, 0, 2, api.ErrCut)
}

// P1.2
func TestPutText(t *testing.T) {
	for _, c := range []struct {
		many int
		head string
	}{{0, "\x00"}, {1, "\x01"}, {2, "\x02"}, {127, "\x7f"}, {128, "\x80\x01"}, {300, "\xac\x02"}, {1<<20 - 1, "\xff\xff\x3f"}, {1 << 20, "\x80\x80\x40"}} {
		text := strings.Repeat("\xfe", c.many)
		if s := wire.PutText(text); s != c.head+text {
			t.Errorf("PutText of %d bytes: %d bytes, want %d", c.many, len(s), len(c.head)+c.many)
		}
	}
	if s := wire.PutText("a\x00\xffb"); s != "\x04a\x00\xffb" {
		t.Errorf("PutText: %q", s)
	}
	for _, many := range []int{1<<20 + 1, 1<<20 + 2, 1 << 21} {
		if s := wire.PutText(strings.Repeat("a", many)); s != "" {
			t.Errorf("PutText of %d bytes: %d bytes, want none", many, len(s))
		}
	}
}

// wantBack: what Put and PutFixed write, Get and GetFixed read.
func wantBack(t *testing.T, n int) {
	t.Helper()
	s := wire.Put(n)
	wantGet(t, wire.Get, "\x81"+s+"\x81", 1, n, 1+len(s), api.OK)
	if n < 1<<32 {
		wantGet(t, wire.GetFixed, "\x81"+wire.PutFixed(n)+"\x81", 1, n, 5, api.OK)
	}
}

// P1.4
func TestReadBack(t *testing.T) {
	for n := range 1 << 15 {
		wantBack(t, n)
	}
	for bit := range 48 {
		for off := range 5 {
			if n := 1<<bit + off - 2; n >= 0 && n <= api.MaxNumber {
				wantBack(t, n)
			}
		}
	}
	for n := 1; n <= api.MaxNumber/3; n = n*3 + n%2 {
		wantBack(t, n)
	}
	wantBack(t, api.MaxNumber)
}

// wantOnly: if a number stands in s, no other bytes than those that were read are its encoding.
func wantOnly(t *testing.T, s string) {
	t.Helper()
	if n, after, e := wire.Get(s, 0); e == api.OK && wire.Put(n) != s[:after] {
		t.Errorf("%q is read as %d, which is written as %q", s[:after], n, wire.Put(n))
	}
	if n, after, e := wire.GetFixed(s, 0); e == api.OK && wire.PutFixed(n) != s[:after] {
		t.Errorf("%q is read as %d, which is written as %q", s[:after], n, wire.PutFixed(n))
	}
}

// P1.4
func TestOnlyEncoding(t *testing.T) {
	for n := range 1 << 16 {
		wantOnly(t, string([]byte{byte(n), byte(n >> 8)}))
	}
	edges := []byte{0, 1, 63, 64, 127, 128, 255}
	for many := range 9 {
		ways := 1
		for range many {
			ways *= len(edges)
		}
		for way := 0; way < ways; way += 1 + many*many { // the longer ones not all
			s := make([]byte, many)
			for i, rest := 0, way; i < many; i++ {
				s[i] = edges[rest%len(edges)]
				rest /= len(edges)
			}
			wantOnly(t, string(s))
		}
	}
}

// P1.4
func FuzzOnlyEncoding(f *testing.F) {
	for _, c := range varints {
		f.Add(c.s)
		f.Add(c.s[:len(c.s)-1] + "\x80\x00")
	}
	f.Fuzz(wantOnly)
}
