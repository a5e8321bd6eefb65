package code_test

import (
	"fmt"
	"hash/crc32"
	"math"
	"slices"
	"strings"
	"testing"
	"transhumance/api"
	"transhumance/code"
)

// span is a field's range.
type span struct{ first, last int }

func (s span) holds(n int) bool {
	return n >= s.first && n <= s.last
}

// row is an operation as chapter 6 tells it: its name and the ranges of its fields.
type row struct {
	name  string
	spans []span
}

// ranges are those of A and of B, which are 0 if they are no fields.
func (r row) ranges() [2]span {
	var two [2]span
	copy(two[:], r.spans)
	return two
}

// rows are the operations, at their numbers.
var rows = []row{
	{"push", []span{{0, 250}, {0, 250}}},
	{"load", []span{{0, 15}}},
	{"store", []span{{0, 15}}},
	{"add", nil},
	{"sub", nil},
	{"mul", nil},
	{"div", nil},
	{"conj", nil},
	{"dup", nil},
	{"drop", nil},
	{"jump", []span{{0, 199}}},
	{"zero", []span{{0, 199}}},
	{"rand", nil},
	{"spawn", []span{{0, 15}, {0, 7}}},
	{"join", []span{{0, 7}}},
	{"ret", nil},
	{"trap", []span{{16, 255}}},
}

// valid is what chapter 6 says of an instruction.
func valid(x api.Instr) bool {
	if x.Op < 0 || x.Op >= len(rows) {
		return false
	}
	spans := rows[x.Op].ranges()
	return spans[0].holds(x.A) && spans[1].holds(x.B)
}

// instrs are the valid instructions.
func instrs() []api.Instr {
	var l []api.Instr
	for n, r := range rows {
		spans := r.ranges()
		for a := spans[0].first; a <= spans[0].last; a++ {
			for b := spans[1].first; b <= spans[1].last; b++ {
				l = append(l, api.Instr{Op: n, A: a, B: b})
			}
		}
	}
	return l
}

// edges are for each operation the valid instructions whose fields are at the ends of their ranges.
func edges() []api.Instr {
	var l []api.Instr
	for n, r := range rows {
		spans := r.ranges()
		for _, a := range []int{spans[0].first, spans[0].last} {
			for _, b := range []int{spans[1].first, spans[1].last} {
				l = append(l, api.Instr{Op: n, A: a, B: b})
			}
		}
	}
	return l
}

// wrongInstrs are instructions that are not valid.
func wrongInstrs() []api.Instr {
	l := []api.Instr{{Op: -1}, {Op: 17}, {Op: 256}, {Op: 271}, {Op: math.MinInt}, {Op: math.MaxInt}, {Op: 16}, {Op: 3, B: 1}, {Op: 15, A: 1}, {Op: 1, B: 1}, {Op: 14, B: -1}}
	for n, r := range rows {
		for i, s := range r.ranges() {
			for _, bad := range []int{s.first - 1, s.last + 1, math.MinInt, math.MaxInt} {
				x := api.Instr{Op: n}
				if len(r.spans) > 0 {
					x.A = r.spans[0].first
				}
				if i == 0 {
					x.A = bad
				} else {
					x.B = bad
				}
				l = append(l, x)
			}
		}
	}
	return l
}

// dice draws numbers, always the same ones.
type dice uint64

// below draws a number from 0 to many - 1.
func (d *dice) below(many int) int {
	*d = *d*6364136223846793005 + 1442695040888963407
	return int(uint64(*d)>>33) % many
}

// prog draws a valid program.
func (d *dice) prog(from []api.Instr, funcs, most int) api.Prog {
	p := make(api.Prog, 1+d.below(funcs))
	for i := range p {
		p[i] = api.Func{Arity: d.below(17), Locals: d.below(17), Slots: d.below(9), Code: make([]api.Instr, 1+d.below(most))}
		for k := range p[i].Code {
			p[i].Code[k] = from[d.below(len(from))]
		}
	}
	return p
}

// sized is a program with that many functions of that many instructions.
func sized(funcs, many int) api.Prog {
	p := make(api.Prog, funcs)
	for i := range p {
		p[i] = api.Func{Code: make([]api.Instr, many)}
	}
	return p
}

// one is a program of one function.
func one(arity, locals, slots int, l ...api.Instr) api.Prog {
	return api.Prog{{Arity: arity, Locals: locals, Slots: slots, Code: l}}
}

// progs are valid programs: small ones, those at the edges, and some that are drawn.
func progs() []api.Prog {
	ret := api.Instr{Op: 15}
	l := []api.Prog{
		one(0, 0, 0, ret),
		one(0, 0, 0, api.Instr{A: 1, B: 2}, ret),
		one(16, 16, 8, ret),
		one(16, 0, 0, ret), // more arguments than locals: that is for chapter 8 to refuse
		one(0, 16, 0, api.Instr{Op: 1, A: 15}),
		one(3, 2, 1, edges()...),
		sized(1, 200),
		sized(16, 1),
		sized(16, 200),
		sized(15, 199),
	}
	d, from := dice(1), instrs()
	for range 40 {
		l = append(l, d.prog(edges(), 4, 9), d.prog(from, 3, 5))
	}
	return append(l, d.prog(from, 16, 200), d.prog(from, 16, 200))
}

// wrongProgs are programs that are not valid.
func wrongProgs() []api.Prog {
	ret := api.Instr{Op: 15}
	l := []api.Prog{nil, {}, {{}}, {{Code: []api.Instr{}}}, sized(17, 1), sized(18, 200), sized(300, 1), sized(1, 0), sized(1, 201), sized(1, 1000), sized(16, 201), make(api.Prog, 16), make(api.Prog, 1<<16)}
	for _, n := range []int{-1, -16, -256, math.MinInt, 17, 18, 256, 1 << 32, math.MaxInt} {
		l = append(l, one(n, 0, 0, ret), one(0, n, 0, ret), one(0, 0, n, ret))
	}
	l = append(l, one(0, 0, 9, ret), one(0, 0, 16, ret))
	for _, x := range wrongInstrs() {
		l = append(l, one(0, 0, 0, x), one(0, 0, 0, x, ret), one(0, 0, 0, ret, ret, x))
	}
	for at := range 16 { // the one that is wrong stands anywhere among others
		for _, f := range []api.Func{{}, {Arity: 17, Code: []api.Instr{ret}}, {Locals: -1, Code: []api.Instr{ret}}, {Slots: 9, Code: []api.Instr{ret}}, {Code: make([]api.Instr, 201)}, {Code: []api.Instr{ret, {Op: 17}}}} {
			p := sized(16, 2)
			p[at] = f
			l = append(l, p)
		}
	}
	return l
}

// cloned is p in other memory.
func cloned(p api.Prog) api.Prog {
	q := slices.Clone(p)
	for i := range q {
		q[i].Code = slices.Clone(q[i].Code)
	}
	return q
}

// told is p, or so much of it as can be read, for an error's text.
func told(p api.Prog) string {
	return fmt.Sprintf("%d functions %.200s", len(p), fmt.Sprint(p))
}

func wantMay(t *testing.T, p api.Prog, is bool) {
	t.Helper()
	if got := code.May(p); got != is {
		t.Errorf("May of %s: %t, want %t", told(p), got, is)
	}
}

func wantSame(t *testing.T, a, b api.Prog, is bool) {
	t.Helper()
	if got, back := code.Same(a, b), code.Same(b, a); got != is || back != is {
		t.Errorf("Same of %s and %s: %t and %t, want %t", told(a), told(b), got, back, is)
	}
}

func wantDigest(t *testing.T, p api.Prog, is int) {
	t.Helper()
	if got := code.Digest(p); got != is {
		t.Errorf("Digest of %s: %d, want %d", told(p), got, is)
	}
}

// P7.1
func TestMay(t *testing.T) {
	for _, p := range progs() {
		wantMay(t, p, true)
	}
	for _, p := range wrongProgs() {
		wantMay(t, p, false)
	}
}

// P7.1: all heads with small numbers.
func TestMayHeads(t *testing.T) {
	for arity := -2; arity < 20; arity++ {
		for locals := -2; locals < 20; locals++ {
			for slots := -2; slots < 20; slots++ {
				is := arity >= 0 && arity <= 16 && locals >= 0 && locals <= 16 && slots >= 0 && slots <= 8
				p := one(arity, locals, slots, api.Instr{Op: 15})
				wantMay(t, p, is)
				wantMay(t, append(sized(15, 1), p...), is)
			}
		}
	}
}

// P7.1: how many functions and instructions there may be.
func TestMayMany(t *testing.T) {
	for funcs := range 20 {
		for _, many := range []int{0, 1, 2, 199, 200, 201, 202, 400} {
			wantMay(t, sized(funcs, many), funcs >= 1 && funcs <= 16 && many >= 1 && many <= 200)
		}
	}
}

// P7.1: an instruction counts wherever it stands.
func TestMayInstrs(t *testing.T) {
	for _, x := range instrs() {
		wantMay(t, one(0, 0, 0, x), true)
	}
	for _, x := range wrongInstrs() {
		for _, at := range []int{0, 1, 100, 198, 199} {
			p := sized(2, 200)
			p[1].Code[at] = x
			wantMay(t, p, false)
		}
	}
}

// P7.1
func TestSame(t *testing.T) {
	l := append(progs(), wrongProgs()...)
	for _, p := range l {
		wantSame(t, p, p, true)
		wantSame(t, p, cloned(p), true)
		wantSame(t, p, append(cloned(p), api.Func{}), false)
		if len(p) > 0 {
			wantSame(t, p, p[1:], false)
			wantSame(t, p, nil, false)
		}
	}
}

// P7.1: programs with one field that differs, valid or not.
func TestSameFields(t *testing.T) {
	p := api.Prog{{Arity: 1, Locals: 2, Slots: 3, Code: []api.Instr{{Op: 1, A: 4}, {Op: 13, A: 5, B: 6}}}, {Arity: 7, Code: []api.Instr{{Op: 15}}}}
	for _, by := range []int{1, -1, 1 << 8, 1 << 32, math.MinInt} {
		for i := range p {
			for at := range 3 + 3*len(p[i].Code) {
				q := cloned(p)
				f := &q[i]
				fields := []*int{&f.Arity, &f.Locals, &f.Slots}
				for k := range f.Code {
					fields = append(fields, &f.Code[k].Op, &f.Code[k].A, &f.Code[k].B)
				}
				*fields[at] += by
				wantSame(t, p, q, false)
			}
		}
	}
}

// P7.1: the number and the order of functions and instructions count.
func TestSameOrder(t *testing.T) {
	a, b := api.Instr{Op: 7}, api.Instr{Op: 8}
	f, g := one(0, 0, 0, a), one(0, 0, 0, b)
	wantSame(t, append(cloned(f), g...), append(cloned(g), f...), false)
	wantSame(t, append(cloned(f), f...), f, false)
	wantSame(t, one(0, 0, 0, a, b), one(0, 0, 0, b, a), false)
	wantSame(t, one(0, 0, 0, a, b), append(cloned(f), g...), false)
	wantSame(t, one(0, 0, 0, a), one(0, 0, 0, a, a), false)
	wantSame(t, one(0, 0, 0, a), one(0, 0, 0), false)
	wantSame(t, one(0, 0, 0, api.Instr{}), one(0, 0, 0), false)
}

// P7.1, R5
func TestSameEmpty(t *testing.T) {
	wantSame(t, nil, nil, true)
	wantSame(t, nil, api.Prog{}, true)
	wantSame(t, nil, api.Prog{{}}, false)
	wantSame(t, api.Prog{{}, {Arity: 1}}, api.Prog{{Code: []api.Instr{}}, {Arity: 1, Code: []api.Instr{}}}, true)
}

// P7.3
func TestDigest(t *testing.T) {
	three := one(0, 0, 0, api.Instr{A: 1, B: 2}, api.Instr{Op: 15})
	wantDigest(t, three, int(crc32.ChecksumIEEE([]byte("\x01\x00\x00\x00\x02\x00\x01\x02\x0f"))))
	for _, p := range progs() {
		wantDigest(t, p, int(crc32.ChecksumIEEE([]byte(encoded(p)))))
	}
	for _, p := range wrongProgs() {
		wantDigest(t, p, 0)
	}
}

// R4: no call changes the program that it is given, nor what lies behind it in its memory.
func TestArgumentsKept(t *testing.T) {
	for _, p := range append(progs(), wrongProgs()...) {
		roomy := append(cloned(p), api.Func{Arity: 77})
		for i := range roomy {
			many := len(roomy[i].Code)
			roomy[i].Code = append(roomy[i].Code, api.Instr{Op: 99, A: 98, B: 97})[:many]
		}
		given := roomy[:len(p)]
		code.May(given)
		code.Text(given)
		code.Encode(given)
		code.Digest(given)
		code.Same(given, given)
		wantSame(t, given, p, true)
		if roomy[len(p)].Arity != 77 {
			t.Errorf("%s: what stands behind it was changed", told(p))
		}
		for _, f := range given {
			if many := len(f.Code); f.Code[:many+1][many] != (api.Instr{Op: 99, A: 98, B: 97}) {
				t.Errorf("%s: what stands behind a function's instructions was changed", told(p))
			}
		}
	}
}

// wantApart: a program that was read shares nothing with itself or with the one that is read next.
func wantApart(t *testing.T, p api.Prog, read func() api.Prog) {
	t.Helper()
	first := read()
	wantSame(t, first, p, true)
	for i := range first {
		before := cloned(first[i+1:])
		_ = append(first[i].Code, api.Instr{Op: 99}, api.Instr{Op: 99})
		for k := range first[i].Code {
			first[i].Code[k] = api.Instr{Op: -1, A: -2, B: -3}
		}
		wantSame(t, first[i+1:], before, true)
	}
	_ = append(first[:0], make(api.Prog, len(first))...)
	wantSame(t, read(), p, true)
}

// R3, R4
func TestResultsApart(t *testing.T) {
	for _, p := range progs() {
		text, bytes := texted(p), encoded(p)
		wantApart(t, p, func() api.Prog {
			q, _, _ := code.Parse(text)
			return q
		})
		wantApart(t, p, func() api.Prog {
			q, _ := code.Decode(bytes)
			return q
		})
	}
}

// P7.4: valid programs come back from their text and from their encoding, and no two of them have the same ones.
func TestReadBack(t *testing.T) {
	texts, bytes := make(map[string]api.Prog), make(map[string]api.Prog)
	d, from := dice(2), instrs()
	l := progs()
	for range 300 {
		l = append(l, d.prog(from, 16, 30), d.prog(edges(), 2, 2))
	}
	for _, p := range l {
		s, b := code.Text(p), code.Encode(p)
		wantParse(t, s, p, strings.Count(s, "\n"), api.OK)
		wantDecode(t, b, p, api.OK)
		for _, old := range []api.Prog{texts[s], bytes[b]} {
			if old != nil {
				wantSame(t, old, p, true)
			}
		}
		texts[s], bytes[b] = p, p
	}
	for _, x := range from {
		p := one(1, 2, 3, x)
		wantParse(t, code.Text(p), p, 2, api.OK)
		wantDecode(t, code.Encode(p), p, api.OK)
	}
}

// P7.1 to P7.4: whatever the strings are, and whatever program they make.
func FuzzPrograms(f *testing.F) {
	for _, p := range progs()[:30] {
		f.Add(texted(p), encoded(p), 0, 3)
	}
	f.Add("func 0 0 0\npush 01 2\n", "\x01\x00\x00\x00\x01\x00\xfb\x01", -1, 251)
	f.Fuzz(func(t *testing.T, text, bytes string, a, b int) {
		wantAsParsed(t, text)
		wantAsParsed(t, "func 1 2 3\n"+text+"\n")
		wantAsDecoded(t, bytes)
		wantAsDecoded(t, "\x02\x01\x02\x03\x02"+bytes)
		head := one(a, b, a, api.Instr{Op: 15})
		wantMay(t, head, a >= 0 && a <= 8 && b >= 0 && b <= 16)
		for n := range api.Ops {
			wantAsValid(t, api.Instr{Op: n, A: a, B: b})
			wantAsValid(t, api.Instr{Op: n, A: int(byte(a)), B: int(byte(b))})
			wantAsValid(t, api.Instr{Op: n, A: int(byte(a))})
		}
	})
}

// wantAsValid: what the chapter says of a program with the instruction x.
func wantAsValid(t *testing.T, x api.Instr) {
	t.Helper()
	p := one(1, 2, 3, x)
	wantSame(t, p, cloned(p), true)
	wantMay(t, p, valid(x))
	if !valid(x) {
		wantText(t, p, "")
		wantEncode(t, p, "")
		return
	}
	wantText(t, p, texted(p))
	wantEncode(t, p, encoded(p))
}
