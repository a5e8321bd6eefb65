package wire_test

import (
	"math"
	"strings"
	"testing"
	"transhumance/api"
	"transhumance/wire"
)

func wantNumber(t *testing.T, r *wire.Reader, most, n int) {
	t.Helper()
	if got := r.Number(most); got != n {
		t.Errorf("Number(%d): %d, want %d", most, got, n)
	}
}

func wantFixed(t *testing.T, r *wire.Reader, n int) {
	t.Helper()
	if got := r.Fixed(); got != n {
		t.Errorf("Fixed: %d, want %d", got, n)
	}
}

func wantText(t *testing.T, r *wire.Reader, most int, s string) {
	t.Helper()
	if got := r.Text(most); got != s {
		t.Errorf("Text(%d): %q, want %q", most, got, s)
	}
}

func wantState(t *testing.T, r *wire.Reader, left int, e api.Errno, at int) {
	t.Helper()
	if got := r.Left(); got != left {
		t.Errorf("Left: %d, want %d", got, left)
	}
	if ge, ga := r.Error(); ge != e || ga != at {
		t.Errorf("Error: %d at %d, want %d at %d", ge, ga, e, at)
	}
}

// wantDone: a reader keeps its first error, and reads nothing more.
func wantDone(t *testing.T, r *wire.Reader, e api.Errno, at int) {
	t.Helper()
	for range 2 {
		wantState(t, r, 0, e, at)
		wantNumber(t, r, math.MaxInt, 0)
		wantNumber(t, r, -1, 0)
		wantFixed(t, r, 0)
		wantText(t, r, math.MaxInt, "")
		wantText(t, r, -1, "")
	}
	wantState(t, r, 0, e, at)
}

// P1.3
func TestNew(t *testing.T) {
	for _, s := range []string{"", "a", "\xff\xff", strings.Repeat("b", 1<<20+7)} {
		wantState(t, wire.New(s), len(s), api.OK, 0)
	}
}

// P1.3
func TestReaderReads(t *testing.T) {
	r := wire.New("\xac\x02" + "\x03abc" + "\x01\x02\x00\x80" + "\x00" + "\x00" + "\xff\xff\xff\xff\xff\xff\x3f" + "!")
	wantNumber(t, r, 300, 300)
	wantState(t, r, 18, api.OK, 0)
	wantText(t, r, 3, "abc")
	wantState(t, r, 14, api.OK, 0)
	wantFixed(t, r, 1<<31+513)
	wantState(t, r, 10, api.OK, 0)
	wantText(t, r, 0, "")
	wantState(t, r, 9, api.OK, 0)
	wantNumber(t, r, 0, 0)
	wantState(t, r, 8, api.OK, 0)
	wantNumber(t, r, math.MaxInt, api.MaxNumber)
	wantState(t, r, 1, api.OK, 0)
	wantNumber(t, r, 33, 33)
	wantState(t, r, 0, api.OK, 0)
	wantNumber(t, r, 33, 0)
	wantDone(t, r, api.ErrCut, 20)
}

// P1.3
func TestReadersApart(t *testing.T) {
	a, b := wire.New("\x01\x02"), wire.New("\x03\x04")
	wantNumber(t, a, 9, 1)
	wantNumber(t, b, 9, 3)
	wantNumber(t, b, 3, 0)
	wantDone(t, b, api.ErrWide, 1)
	wantNumber(t, a, 9, 2)
	wantState(t, a, 0, api.OK, 0)
}

// P1.3
func TestReaderNumberErrors(t *testing.T) {
	for _, c := range []struct {
		s    string
		most int
		e    api.Errno
	}{
		{"", 9, api.ErrCut},
		{"\x80", 9, api.ErrCut},
		{"\x80\x00", 9, api.ErrLoose},
		{"\xff\xff\xff\xff\xff\xff\x40", math.MaxInt, api.ErrWide},
		{"\xff\xff\xff\xff\xff\xff\xff\x01", math.MaxInt, api.ErrWide},
		{"\x07", 6, api.ErrWide},
		{"\xac\x02", 299, api.ErrWide},
		{"\x01", 0, api.ErrWide},
		{"\x00", -1, api.ErrWide},
		{"\x00", math.MinInt, api.ErrWide},
		{"", -1, api.ErrCut}, // what cannot be read comes before what is too great
		{"\x81\x00", 0, api.ErrLoose},
	} {
		r := wire.New(c.s)
		wantNumber(t, r, c.most, 0)
		wantDone(t, r, c.e, 0)
		r = wire.New("\x09" + c.s)
		wantNumber(t, r, 9, 9)
		wantNumber(t, r, c.most, 0)
		wantDone(t, r, c.e, 1)
	}
}

// P1.3
func TestReaderFixedErrors(t *testing.T) {
	for many := range 4 {
		r := wire.New("\x80\x01" + strings.Repeat("\x01", many))
		wantNumber(t, r, 128, 128)
		wantFixed(t, r, 0)
		wantDone(t, r, api.ErrCut, 2)
	}
	r := wire.New("\xff\xff\xff\xff\x00\x00\x00\x80\x01")
	wantFixed(t, r, 1<<32-1)
	wantFixed(t, r, 1<<31)
	wantState(t, r, 1, api.OK, 0)
	wantFixed(t, r, 0)
	wantDone(t, r, api.ErrCut, 8)
}

// P1.3
func TestReaderTextErrors(t *testing.T) {
	for _, c := range []struct {
		s    string
		most int
		e    api.Errno
	}{
		{"", 9, api.ErrCut},
		{"\x01", 9, api.ErrCut},
		{"\x05abcd", 9, api.ErrCut},
		{"\xac\x02ab", 300, api.ErrCut}, // the length itself could be read: its position is told all the same
		{"\xff\xff\xff\xff\xff\xff\x3fab", math.MaxInt, api.ErrCut},
		{"\x80\x00ab", 9, api.ErrLoose},
		{"\xff\xff\xff\xff\xff\xff\x7fab", math.MaxInt, api.ErrWide},
		{"\x02ab", 1, api.ErrWide},
		{"\x05ab", 4, api.ErrWide},
		{"\x00", -1, api.ErrWide},
		{"\x80", -1, api.ErrCut},
	} {
		r := wire.New(c.s)
		wantText(t, r, c.most, "")
		wantDone(t, r, c.e, 0)
		r = wire.New("\x03xyz" + c.s)
		wantText(t, r, 3, "xyz")
		wantText(t, r, c.most, "")
		wantDone(t, r, c.e, 4)
	}
}

// P1.3
func TestReaderNone(t *testing.T) {
	var r *wire.Reader
	wantDone(t, r, api.ErrArg, 0)
}

// P1.3
func TestReaderEmpty(t *testing.T) {
	wantState(t, new(wire.Reader), 0, api.OK, 0)
	wantText(t, wire.New(""), 0, "")
	r := new(wire.Reader)
	wantFixed(t, r, 0)
	wantDone(t, r, api.ErrCut, 0)
}

// P1.4
func TestReaderReadsBack(t *testing.T) {
	long := strings.Repeat("0123456789abcdef", 1<<16)
	r := wire.New(wire.Put(api.MaxNumber) + wire.PutText(long) + wire.PutFixed(1<<32-1) + wire.PutText("") + wire.PutText("\x80\x00") + wire.Put(0))
	wantNumber(t, r, api.MaxNumber, api.MaxNumber)
	if got := r.Text(api.MaxBytes); got != long {
		t.Errorf("a string of %d bytes was read as %d bytes", len(long), len(got))
	}
	wantFixed(t, r, 1<<32-1)
	wantText(t, r, 0, "")
	wantText(t, r, 2, "\x80\x00")
	wantNumber(t, r, 0, 0)
	wantState(t, r, 0, api.OK, 0)
}
