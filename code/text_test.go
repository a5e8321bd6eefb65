package code_test

import (
	"fmt"
	"slices"
	"strings"
	"sync"
	"testing"
	"transhumance/api"
	"transhumance/code"
)

// lined is the line of an instruction, without its end.
func lined(x api.Instr) string {
	r := rows[x.Op]
	return strings.Join(append([]string{r.name}, strings.Fields(strings.Trim(fmt.Sprint([]int{x.A, x.B}[:len(r.spans)]), "[]"))...), " ")
}

// texted is the text of a valid program.
func texted(p api.Prog) string {
	s := ""
	for _, f := range p {
		s += fmt.Sprintf("func %d %d %d\n", f.Arity, f.Locals, f.Slots)
		for _, x := range f.Code {
			s += lined(x) + "\n"
		}
	}
	return s
}

// line is what a valid line says: a function's head, or an instruction.
type line struct {
	head  bool
	f     api.Func
	instr api.Instr
}

// lines are all lines that are valid somewhere, with their ends: so many are there that a line has a text's form if and only if it is one of these.
var lines = sync.OnceValue(func() map[string]line {
	m := make(map[string]line)
	for arity := range 17 {
		for locals := range 17 {
			for slots := range 9 {
				m[fmt.Sprintf("func %d %d %d\n", arity, locals, slots)] = line{head: true, f: api.Func{Arity: arity, Locals: locals, Slots: slots}}
			}
		}
	}
	for _, x := range instrs() {
		m[lined(x)+"\n"] = line{instr: x}
	}
	return m
})

// parsed is what P7.2 says of any string.
func parsed(s string) (api.Prog, int, api.Errno) {
	var p api.Prog
	all := strings.SplitAfter(s, "\n")
	ended := len(all) - 1 // the last one is what stands behind the last end
	for i, text := range all[:ended] {
		l, ok := lines()[text]
		last := len(p) - 1
		bare := last >= 0 && len(p[last].Code) == 0
		switch {
		case !ok || l.head && (bare || len(p) == 16) || !l.head && (last < 0 || len(p[last].Code) == 200):
			return nil, i, api.ErrLine
		case l.head:
			p = append(p, l.f)
		default:
			p[last].Code = append(p[last].Code, l.instr)
		}
	}
	if all[ended] != "" || len(p) == 0 || len(p[len(p)-1].Code) == 0 {
		return nil, ended, api.ErrLine
	}
	return p, ended, api.OK
}

func wantText(t *testing.T, p api.Prog, s string) {
	t.Helper()
	if got := code.Text(p); got != s {
		t.Errorf("Text of %s: %.200q, want %.200q", told(p), got, s)
	}
}

func wantParse(t *testing.T, s string, p api.Prog, n int, e api.Errno) {
	t.Helper()
	gp, gn, ge := code.Parse(s)
	if !slices.EqualFunc(gp, p, equal) || gn != n || ge != e {
		t.Errorf("Parse of %.200q: %s, %d, %d; want %s, %d, %d", s, told(gp), gn, ge, told(p), n, e)
	}
}

func equal(a, b api.Func) bool {
	return a.Arity == b.Arity && a.Locals == b.Locals && a.Slots == b.Slots && slices.Equal(a.Code, b.Code)
}

// wantLine: line n is the first one for which s is no text of a program.
func wantLine(t *testing.T, s string, n int) {
	t.Helper()
	wantParse(t, s, nil, n, api.ErrLine)
}

// wantAsParsed: what P7.2 says of s.
func wantAsParsed(t *testing.T, s string) {
	t.Helper()
	p, n, e := parsed(s)
	wantParse(t, s, p, n, e)
	if e == api.OK {
		wantText(t, p, s)
	}
}

// P7.2
func TestText(t *testing.T) {
	wantText(t, one(0, 0, 0, api.Instr{A: 1, B: 2}, api.Instr{Op: 15}), "func 0 0 0\npush 1 2\nret\n")
	wantText(t, append(one(16, 16, 8, api.Instr{A: 250, B: 250}), one(1, 2, 3, api.Instr{Op: 16, A: 255})...), "func 16 16 8\npush 250 250\nfunc 1 2 3\ntrap 255\n")
	var l []api.Instr
	for n := range 17 {
		l = append(l, api.Instr{Op: n})
	}
	l[0], l[13], l[14], l[16] = api.Instr{A: 10, B: 200}, api.Instr{Op: 13, A: 15, B: 7}, api.Instr{Op: 14, A: 7}, api.Instr{Op: 16, A: 16}
	l[10], l[11] = api.Instr{Op: 10, A: 199}, api.Instr{Op: 11, A: 100}
	wantText(t, one(2, 10, 5, l...), "func 2 10 5\npush 10 200\nload 0\nstore 0\nadd\nsub\nmul\ndiv\nconj\ndup\ndrop\njump 199\nzero 100\nrand\nspawn 15 7\njoin 7\nret\ntrap 16\n")
	for _, p := range progs() {
		wantText(t, p, texted(p))
	}
	for _, x := range instrs() {
		wantText(t, one(0, 0, 0, x), "func 0 0 0\n"+lined(x)+"\n")
	}
}

// P7.2
func TestTextNothing(t *testing.T) {
	for _, p := range wrongProgs() {
		wantText(t, p, "")
	}
}

// P7.2
func TestParse(t *testing.T) {
	wantParse(t, "func 0 0 0\npush 1 2\nret\n", one(0, 0, 0, api.Instr{A: 1, B: 2}, api.Instr{Op: 15}), 3, api.OK)
	wantParse(t, "func 16 0 8\ntrap 16\n", one(16, 0, 8, api.Instr{Op: 16, A: 16}), 2, api.OK)
	for _, p := range progs() {
		s := texted(p)
		wantParse(t, s, p, strings.Count(s, "\n"), api.OK)
	}
	for text := range lines() {
		wantAsParsed(t, text)
		wantAsParsed(t, "func 1 2 3\n"+text)
		wantAsParsed(t, "func 1 2 3\ndup\n"+text+"dup\n")
	}
}

// P7.2: what is not a whole program, though no line of it is invalid.
func TestParseNotWhole(t *testing.T) {
	wantLine(t, "", 0)
	wantLine(t, "func 0 0 0\n", 1)
	wantLine(t, "func 0 0 0\nret\nfunc 0 0 0\n", 3)
	for _, rest := range []string{"ret", "func 0 0 0", " ", "\x00", "x", "ret 1", "\r"} {
		wantLine(t, rest, 0)
		wantLine(t, "func 0 0 0\n"+rest, 1)
		wantLine(t, "func 0 0 0\nret\n"+rest, 2)
		wantLine(t, "func 0 0 0\nret\nfunc 0 0 0\n"+rest, 3)
		wantLine(t, "func 0 0 0\nret 1\nret\n"+rest, 1) // the invalid line comes first
	}
	for _, p := range progs() {
		s := texted(p)
		n := strings.Count(s, "\n")
		wantLine(t, s[:len(s)-1], n-1)
		wantLine(t, s+"ret", n)
		wantLine(t, strings.ReplaceAll(s, "\n", "\r\n"), 0)
		wantLine(t, strings.ReplaceAll(s, "\n", " "), 0)
	}
}

// P7.2: all beginnings of texts.
func TestParseCut(t *testing.T) {
	for _, p := range progs()[:30] {
		s := texted(p)
		for many := range min(len(s), 400) {
			wantAsParsed(t, s[:many])
		}
	}
}

// wrongLines are lines that are valid nowhere.
func wrongLines() []string {
	l := []string{"", " ", "\t", "\x00", "\r", "0", "1 2", "func", "func ", "func 0", "func 0 0", "func 0 0 ", "func 0 0 0 0", "func 0 0 0 0 0 0", "Func 0 0 0", "func0 0 0", "func 0 00", "function 0 0 0", "func 0 0 0x0", "ret 0", "ret ret", "pop", "nop", "call 0", "PUSH 1 2", "push 1,2", "push 1 2 3", "push 1 2 0 0 0", "push 1", "push", "add 0", "dup 0 0", "load", "load 0 0", "load x", "load 1.0", "load 1e0", "load 0x1", "load 1_0", "load ０", "trap", "trap 0", "trap 15", "trap 256", "trap 16 0", "spawn 1", "join 1 0", "jump", "zero 1 1", "mul;", "# remark", "func 0 0 0 ret"}
	for _, x := range edges() {
		s := lined(x)
		l = append(l, " "+s, s+" ", s+"  ", s+"\t", s+"\r", s+"\x00", s+" 0", strings.ToUpper(s), strings.ToUpper(s[:1])+s[1:], "."+s)
		if strings.Contains(s, " ") {
			first := strings.Index(s, " ")
			last := strings.LastIndex(s, " ")
			for _, at := range []int{first, last} {
				for _, by := range []string{"", "  ", "\t", ", ", " 0", " +", " -", " \x00", " 00", "\u00a0"} {
					l = append(l, s[:at]+by+s[at+1:])
				}
			}
		}
	}
	for _, n := range []string{"-1", "-0", "+0", "00", "000", "256", "300", "999", "1000", "65536", "4294967296", "9223372036854775807", "9223372036854775808", "-9223372036854775808", "18446744073709551616", "18446744073709551617", strings.Repeat("9", 400), "1" + strings.Repeat("0", 1000), strings.Repeat("0", 1000), "", "x", "1x", "x1", "1.", "١"} {
		l = append(l, "func "+n+" 0 0", "func 0 "+n+" 0", "func 0 0 "+n, "push "+n+" 0", "push 0 "+n, "load "+n, "store "+n, "jump "+n, "zero "+n, "spawn "+n+" 0", "spawn 0 "+n, "join "+n, "trap "+n, "ret "+n)
	}
	return append(l, "func 17 0 0", "func 0 17 0", "func 0 0 9", "func 0 0 16", "push 251 0", "push 0 251", "load 16", "store 16", "jump 200", "zero 200", "spawn 16 0", "spawn 0 8", "join 8")
}

// P7.2: a line that is valid nowhere is told with its number, wherever it stands and whatever follows.
func TestParseWrongLines(t *testing.T) {
	for _, bad := range wrongLines() {
		if _, ok := lines()[bad+"\n"]; ok {
			t.Fatalf("%q is valid", bad)
		}
		for _, behind := range []string{"", "ret\n", "func 0 0 0\nret\n", "\n", "x", "ret 1\n"} {
			wantLine(t, bad+"\n"+behind, 0)
			wantLine(t, "func 1 2 3\n"+bad+"\n"+behind, 1)
			wantLine(t, "func 1 2 3\nret\n"+bad+"\n"+behind, 2)
			wantLine(t, "func 1 2 3\nret\nfunc 0 0 0\n"+bad+"\n"+behind, 3)
		}
	}
}

// P7.2: all numbers with few digits, in each place of a line.
func TestParseNumbers(t *testing.T) {
	for n := range 1300 {
		for _, form := range []string{"%d", "0%d", "+%d", "-%d", "%03d", "%d ", " %d"} {
			s := fmt.Sprintf(form, n)
			for _, l := range []string{"push N 0", "push 0 N", "load N", "store N", "jump N", "zero N", "spawn N 0", "spawn 0 N", "join N", "trap N", "add N", "ret N"} {
				wantAsParsed(t, "func 0 0 0\n"+strings.Replace(l, "N", s, 1)+"\n")
			}
			for _, l := range []string{"func N 0 0", "func 0 N 0", "func 0 0 N"} {
				wantAsParsed(t, strings.Replace(l, "N", s, 1)+"\nret\n")
			}
		}
	}
}

// P7.2: how many functions and instructions there may be, and in what order.
func TestParseMany(t *testing.T) {
	f := "func 0 0 0\n"
	wantLine(t, "ret\n"+f+"ret\n", 0)
	wantLine(t, f+f+"ret\n", 1)
	wantLine(t, f+"ret\n"+f+f, 3)
	for _, many := range []int{1, 2, 199, 200, 201, 202, 500} {
		body := strings.Repeat("dup\n", many)
		for before := range 3 {
			s := strings.Repeat(f+"ret\n", before) + f + body
			wantAsParsed(t, s)
			wantAsParsed(t, s+f+"ret\n")
			if many > 200 {
				wantLine(t, s, 2*before+201)
			}
		}
	}
	for _, many := range []int{15, 16, 17, 18, 40} {
		s := strings.Repeat(f+"ret\n", many)
		wantAsParsed(t, s)
		if many > 16 {
			wantLine(t, s, 32)
		}
		wantAsParsed(t, s+"ret\n")
		wantAsParsed(t, s+f)
	}
	full := strings.Repeat(f+strings.Repeat("ret\n", 200), 16)
	wantAsParsed(t, full)
	wantLine(t, full+"ret\n", 16*201)
	wantLine(t, full+f, 16*201)
	wantLine(t, full+"\n", 16*201)
	wantLine(t, full+"r", 16*201)
}

// P7.2: texts of which a byte is another one, is missing, or stands twice.
func TestParseChanged(t *testing.T) {
	d := dice(3)
	for _, p := range progs()[:60] {
		s := texted(p)
		for range 400 {
			at := d.below(len(s))
			b := string("\x00\t\n\n\r  0012579-+afunrtps\xff"[d.below(24)])
			wantAsParsed(t, s[:at]+b+s[at+1:])
			wantAsParsed(t, s[:at]+b+s[at:])
			wantAsParsed(t, s[:at]+s[at+1:])
		}
	}
}

// P7.2: texts whose lines change places.
func TestParseShuffled(t *testing.T) {
	d := dice(4)
	for _, p := range progs()[:60] {
		all := strings.SplitAfter(texted(p), "\n")
		for range 100 {
			a, b := d.below(len(all)), d.below(len(all))
			all[a], all[b] = all[b], all[a]
			wantAsParsed(t, strings.Join(all, ""))
		}
	}
}

// P1, P7.2: long strings are read once.
func TestParseLong(t *testing.T) {
	const many = 1 << 22
	for _, s := range []string{" ", "0", "9", " 0", "\x00", "func ", "push", "\xff"} {
		long := strings.Repeat(s, many/len(s))
		wantLine(t, long, 0)
		wantLine(t, long+"\n", 0)
		wantLine(t, "func 0 0 0\npush "+long+"\n", 1)
		wantLine(t, "func 0 0 0\nret\n"+long, 2)
		wantLine(t, "func 0 0 "+long+"\nret\n", 0)
	}
	wantLine(t, strings.Repeat("\n", many), 0)
	wantLine(t, "func 0 0 0\n"+strings.Repeat("ret\n", many), 201)
	wantLine(t, strings.Repeat("func 0 0 0\nret\n", many/4), 32)
}
