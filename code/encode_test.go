package code_test

import (
	"encoding/binary"
	"slices"
	"strings"
	"testing"
	"transhumance/api"
	"transhumance/code"
	"transhumance/wire"
)

// piece is a number or an operation of an encoding: where it begins and ends, and whether it is a plain byte.
type piece struct {
	first, after int
	plain        bool
}

// pieces is the encoding of a valid program, and what it consists of.
func pieces(p api.Prog) (string, []piece) {
	var b []byte
	var l []piece
	number := func(n int) {
		first := len(b)
		b = binary.AppendUvarint(b, uint64(n))
		l = append(l, piece{first, len(b), false})
	}
	number(len(p))
	for _, f := range p {
		number(f.Arity)
		number(f.Locals)
		number(f.Slots)
		number(len(f.Code))
		for _, x := range f.Code {
			b = append(b, byte(x.Op))
			l = append(l, piece{len(b) - 1, len(b), true})
			for _, n := range []int{x.A, x.B}[:len(rows[x.Op].spans)] {
				number(n)
			}
		}
	}
	return string(b), l
}

// encoded is the encoding of a valid program.
func encoded(p api.Prog) string {
	s, _ := pieces(p)
	return s
}

// decoded is what P7.3 says of any string.
func decoded(s string) (p api.Prog, e api.Errno) {
	defer func() {
		if r := recover(); r != nil {
			p, e = nil, r.(api.Errno)
		}
	}()
	at := 0
	number := func(in span) int {
		n, after, e := wire.Get(s, at)
		if e != api.OK {
			panic(e)
		}
		if n < in.first || n > in.last {
			panic(api.ErrOp)
		}
		at = after
		return n
	}
	p = make(api.Prog, number(span{1, 16}))
	for i := range p {
		p[i].Arity = number(span{0, 16})
		p[i].Locals = number(span{0, 16})
		p[i].Slots = number(span{0, 8})
		p[i].Code = make([]api.Instr, number(span{1, 200}))
		for k := range p[i].Code {
			if at == len(s) {
				panic(api.ErrCut)
			}
			if s[at] > 16 {
				panic(api.ErrOp)
			}
			r := rows[s[at]]
			var fields [2]int
			p[i].Code[k].Op = int(s[at])
			at++
			for n, in := range r.spans {
				fields[n] = number(in)
			}
			p[i].Code[k].A, p[i].Code[k].B = fields[0], fields[1]
		}
	}
	if at < len(s) {
		panic(api.ErrRest)
	}
	return p, api.OK
}

func wantEncode(t *testing.T, p api.Prog, s string) {
	t.Helper()
	if got := code.Encode(p); got != s {
		t.Errorf("Encode of %s: %.200q, want %.200q", told(p), got, s)
	}
}

func wantDecode(t *testing.T, s string, p api.Prog, e api.Errno) {
	t.Helper()
	gp, ge := code.Decode(s)
	if !slices.EqualFunc(gp, p, equal) || ge != e {
		t.Errorf("Decode of %.200q: %s, %d; want %s, %d", s, told(gp), ge, told(p), e)
	}
}

func wantNot(t *testing.T, s string, e api.Errno) {
	t.Helper()
	wantDecode(t, s, nil, e)
}

// wantAsDecoded: what P7.3 says of s.
func wantAsDecoded(t *testing.T, s string) {
	t.Helper()
	p, e := decoded(s)
	wantDecode(t, s, p, e)
	if e == api.OK {
		wantEncode(t, p, s)
	}
}

// P7.3
func TestEncode(t *testing.T) {
	wantEncode(t, one(0, 0, 0, api.Instr{A: 1, B: 2}, api.Instr{Op: 15}), "\x01\x00\x00\x00\x02\x00\x01\x02\x0f")
	wantEncode(t, append(one(16, 15, 8, api.Instr{A: 250, B: 128}), one(1, 2, 3, api.Instr{Op: 16, A: 255}, api.Instr{Op: 13, A: 15, B: 7})...), "\x02\x10\x0f\x08\x01\x00\xfa\x01\x80\x01\x01\x02\x03\x02\x10\xff\x01\x0d\x0f\x07")
	wantEncode(t, sized(1, 200), "\x01\x00\x00\x00\xc8\x01"+strings.Repeat("\x00", 600))
	wantEncode(t, sized(16, 1), "\x10"+strings.Repeat("\x00\x00\x00\x01\x00\x00\x00", 16))
	for _, p := range progs() {
		wantEncode(t, p, encoded(p))
	}
	for _, x := range instrs() {
		p := one(3, 2, 1, x)
		wantEncode(t, p, encoded(p))
	}
}

// P7.3
func TestEncodeNothing(t *testing.T) {
	for _, p := range wrongProgs() {
		wantEncode(t, p, "")
	}
}

// P7.3
func TestDecode(t *testing.T) {
	wantDecode(t, "\x01\x00\x00\x00\x02\x00\x01\x02\x0f", one(0, 0, 0, api.Instr{A: 1, B: 2}, api.Instr{Op: 15}), api.OK)
	for _, p := range progs() {
		wantDecode(t, encoded(p), p, api.OK)
	}
}

// P7.3: all beginnings of an encoding are cut.
func TestDecodeCut(t *testing.T) {
	wantNot(t, "", api.ErrCut)
	for _, p := range progs() {
		s := encoded(p)
		for many := range min(len(s), 300) {
			wantNot(t, s[:many], api.ErrCut)
			wantNot(t, s[:len(s)-1-many], api.ErrCut)
		}
	}
}

// P7.3
func TestDecodeRest(t *testing.T) {
	for _, p := range progs() {
		s := encoded(p)
		for _, rest := range []string{"\x00", "x", "\x80", "\x80\x00", "\xff\xff\xff\xff\xff\xff\xff\xff", s, strings.Repeat("\x00", 1<<16)} {
			wantNot(t, s+rest, api.ErrRest)
		}
	}
}

// P7.3: a number that cannot be read, at each place, with nothing and with all the rest behind it.
func TestDecodeNumbers(t *testing.T) {
	for _, p := range progs()[:60] {
		s, l := pieces(p)
		for _, x := range l[:min(len(l), 100)] {
			if x.plain {
				continue
			}
			for _, c := range []struct {
				bytes string
				e     api.Errno
			}{
				{"\x80\x00", api.ErrLoose},
				{"\x81\x80\x00", api.ErrLoose},
				{"\xff\xff\xff\xff\xff\xff\x00", api.ErrLoose},
				{"\xff\xff\xff\xff\xff\xff\x40", api.ErrWide},
				{"\x80\x80\x80\x80\x80\x80\x7f", api.ErrWide},
				{"\x81\x80\x80\x80\x80\x80\x80\x00", api.ErrWide},
				{"\xff\xff\xff\xff\xff\xff\x3f", api.ErrOp}, // this can be read
				{"\x80\x02", api.ErrOp},                     // 256
				{"\x80\x80\x04", api.ErrOp},
			} {
				wantNot(t, s[:x.first]+c.bytes, c.e)
				wantNot(t, s[:x.first]+c.bytes+s[x.after:], c.e)
				wantNot(t, s[:x.first]+c.bytes+"\x80\x00", c.e)
			}
			wantNot(t, s[:x.first]+"\x80", api.ErrCut)
			wantNot(t, s[:x.first]+"\xff\xff\xff\xff\xff\xff\xff", api.ErrCut)
		}
	}
}

// P7.3: all small numbers at each place; what no valid program has there is told before what follows is missing or wrong.
func TestDecodeRanges(t *testing.T) {
	p := append(one(16, 16, 8, edges()...), one(0, 0, 0, api.Instr{Op: 15})...)
	s, l := pieces(p)
	for _, x := range l {
		for n := range 300 {
			by := string(binary.AppendUvarint(nil, uint64(n)))
			if x.plain {
				by = string([]byte{byte(n)})
			}
			wantAsDecoded(t, s[:x.first]+by)
			wantAsDecoded(t, s[:x.first]+by+"\x80\x00")
			wantAsDecoded(t, s[:x.first]+by+s[x.after:])
		}
	}
}

// P7.3: the edges as the document writes them, with nothing behind them.
func TestDecodeEdges(t *testing.T) {
	for _, c := range []struct {
		s string
		e api.Errno
	}{
		{"\x00", api.ErrOp}, // no function
		{"\x10", api.ErrCut},
		{"\x11", api.ErrOp},
		{"\x80\x01", api.ErrOp},
		{"\x01\x10", api.ErrCut},
		{"\x01\x11", api.ErrOp},
		{"\x01\x00\x10", api.ErrCut},
		{"\x01\x00\x11", api.ErrOp},
		{"\x01\x00\x00\x08", api.ErrCut},
		{"\x01\x00\x00\x09", api.ErrOp},
		{"\x01\x00\x00\x00\x00", api.ErrOp}, // no instruction
		{"\x01\x00\x00\x00\x01", api.ErrCut},
		{"\x01\x00\x00\x00\xc8\x01", api.ErrCut},
		{"\x01\x00\x00\x00\xc9\x01", api.ErrOp},
		{"\x01\x00\x00\x00\x01\x10", api.ErrCut},
		{"\x01\x00\x00\x00\x01\x11", api.ErrOp},
		{"\x01\x00\x00\x00\x01\x80\x01", api.ErrOp}, // an operation is a byte, no number
		{"\x01\x00\x00\x00\x01\x8f\x00", api.ErrOp},
		{"\x01\x00\x00\x00\x01\xff", api.ErrOp},
		{"\x01\x00\x00\x00\x01\x00\xfa\x01", api.ErrCut},
		{"\x01\x00\x00\x00\x01\x00\xfb\x01", api.ErrOp}, // the first field, ahead of the second one
		{"\x01\x00\x00\x00\x01\x00\xfb\x01\x80\x00", api.ErrOp},
		{"\x01\x00\x00\x00\x01\x00\x00\xfb\x01", api.ErrOp},
		{"\x01\x00\x00\x00\x01\x00\x00\x80\x00", api.ErrLoose},
		{"\x01\x00\x00\x00\x01\x0d\x0f", api.ErrCut},
		{"\x01\x00\x00\x00\x01\x0d\x10", api.ErrOp},
		{"\x01\x00\x00\x00\x01\x0d\x0f\x08", api.ErrOp},
		{"\x01\x00\x00\x00\x01\x10\x0f", api.ErrOp},
		{"\x01\x00\x00\x00\x01\x10\x80\x02", api.ErrOp},
		{"\x01\x00\x00\x00\x01\x10\x10", api.OK},
		{"\x01\x00\x00\x00\x01\x10\x10\x00", api.ErrRest},
		{"\x02\x00\x00\x00\x01\x0f", api.ErrCut}, // a function is missing
		{"\x02\x00\x00\x00\x01\x0f\x11", api.ErrOp},
	} {
		if _, e := code.Decode(c.s); e != c.e {
			t.Errorf("Decode of %q: %d, want %d", c.s, e, c.e)
		}
		wantAsDecoded(t, c.s)
	}
}

// P7.3: all strings of two bytes, and all that begin a function's instructions with three.
func TestDecodeShort(t *testing.T) {
	for a := range 256 {
		for b := range 256 {
			two := string([]byte{byte(a), byte(b)})
			wantAsDecoded(t, two)
			wantAsDecoded(t, "\x01\x00\x00\x00"+two)
			for _, c := range []string{"", "\x00", "\x01", "\x07", "\x08", "\x7f", "\x80", "\xff"} {
				wantAsDecoded(t, "\x01\x01\x02\x03\x01"+two+c)
			}
		}
	}
}

// P7.3: encodings of which a byte is another one, is missing, or stands twice.
func TestDecodeChanged(t *testing.T) {
	d := dice(5)
	for _, p := range progs() {
		s := encoded(p)
		for range 400 {
			at := d.below(len(s))
			b := string([]byte{byte(d.below(256))})
			wantAsDecoded(t, s[:at]+b+s[at+1:])
			wantAsDecoded(t, s[:at]+b+s[at:])
			wantAsDecoded(t, s[:at]+s[at+1:])
		}
	}
}

// P1, P7.3: long strings end at their first error.
func TestDecodeLong(t *testing.T) {
	for b := range 256 {
		wantAsDecoded(t, strings.Repeat(string([]byte{byte(b)}), 1<<20))
	}
}
