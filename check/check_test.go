package check_test

import (
	"fmt"
	"math"
	"strings"
	"testing"
	"transhumance/api"
	"transhumance/check"
	"transhumance/code"
)

// verdict is what Check returns.
type verdict struct {
	fn, at int
	e      api.Errno
}

var safe = verdict{}

// The errors by the numbers that the document gives them.
const (
	errArg   = 1
	errFunc  = 80
	errCode  = 81
	errField = 82
	errJump  = 83
	errStack = 84
)

func wantCheck(t *testing.T, p api.Prog, is verdict) {
	t.Helper()
	if fn, at, e := check.Check(p); (verdict{fn, at, e}) != is {
		t.Errorf("Check of %s: %d, %d, %d, want %v", told(p), fn, at, e, is)
	}
}

// told is p, or so much of it as can be read, for an error's text.
func told(p api.Prog) string {
	s := strings.ReplaceAll(code.Text(p), "\n", "; ")
	return fmt.Sprintf("%d functions %.600s", len(p), s)
}

// parsed is the program with these lines.
func parsed(t *testing.T, lines ...string) api.Prog {
	t.Helper()
	p, at, e := code.Parse(strings.Join(lines, "\n") + "\n")
	if e != api.OK {
		t.Fatalf("line %d of %q: error %d", at, lines, e)
	}
	return p
}

// some are that many lines that are equal.
func some(many int, line string) []string {
	l := make([]string, many)
	for i := range l {
		l[i] = line
	}
	return l
}

// lines are lists of lines, one after the other.
func lines(lists ...[]string) []string {
	var all []string
	for _, l := range lists {
		all = append(all, l...)
	}
	return all
}

// line is one line as a list.
func line(parts ...any) []string {
	return []string{strings.TrimSuffix(fmt.Sprintln(parts...), "\n")}
}

// wantLines: what Check says of the program with these lines.
func wantLines(t *testing.T, is verdict, lists ...[]string) {
	t.Helper()
	wantCheck(t, parsed(t, lines(lists...)...), is)
}

// P8.1: ordinary programs that are safe.
func TestSafe(t *testing.T) {
	for _, l := range [][]string{
		{"func 0 0 0", "push 1 0", "ret"},
		{"func 0 0 0", "trap 16"},
		{"func 0 0 0", "jump 0"}, // it does not end, but that is no matter here
		{"func 0 0 0", "push 0 0", "zero 3", "jump 0", "trap 255"},
		{"func 0 0 0", "rand", "zero 0", "jump 0"},
		{"func 2 2 0", "load 0", "load 1", "sub", "dup", "conj", "mul", "ret"},
		{"func 1 2 0", "load 0", "store 1", "load 1", "dup", "drop", "ret"},
		{"func 1 1 1", "load 0", "spawn 0 0", "join 0", "ret"},
		{"func 0 0 1", "spawn 1 0", "join 0", "ret", "func 0 0 0", "rand", "ret"},
		{"func 0 0 0", "push 1 1", "ret", "add"}, // what is not reached may be anything
		{"func 0 0 0", "jump 2", "drop", "trap 20"},
		{"func 0 0 0", "push 1 1", "push 2 2", "ret"}, // a value is left
	} {
		wantLines(t, safe, l)
	}
}

// P8.1: a program that is not valid has no place of its own, whatever else is wrong with it.
func TestNotValid(t *testing.T) {
	ret, bad := api.Instr{Op: 15}, api.Instr{Op: 17}
	one := func(arity, locals, slots int, l ...api.Instr) api.Prog {
		return api.Prog{{Arity: arity, Locals: locals, Slots: slots, Code: l}}
	}
	l := []api.Prog{nil, {}, {{}}, make(api.Prog, 16), make(api.Prog, 1<<16), {{Code: []api.Instr{}}}, {{Code: make([]api.Instr, 201)}}, {{Code: make([]api.Instr, 1<<16)}}}
	for _, n := range []int{-1, 17, 1 << 32, math.MinInt, math.MaxInt} {
		l = append(l, one(n, 0, 0, ret), one(0, n, 0, ret), one(0, 0, n, ret), one(n, n, n, ret))
		l = append(l, one(0, 0, 0, api.Instr{Op: n}), one(0, 16, 0, api.Instr{Op: 1, A: n}), one(0, 0, 0, api.Instr{Op: 7, B: n}))
		l = append(l, one(0, 0, 8, api.Instr{Op: 13, A: n, B: n}), one(0, 0, 8, api.Instr{Op: 13, B: n}))
	}
	for _, n := range []int{-1, 200, 1 << 32, math.MinInt, math.MaxInt} {
		l = append(l, one(0, 0, 0, api.Instr{Op: 10, A: n}), one(0, 0, 0, api.Instr{Op: 11, A: n}), one(0, 0, 0, api.Instr{Op: 16, A: 15}))
	}
	l = append(l, one(0, 0, 9, ret), one(2, 1, 0, bad), one(0, 0, 0, ret, bad))
	l = append(l, append(one(2, 1, 0, ret), one(0, 0, 0, bad)...))
	l = append(l, append(one(0, 0, 0, ret), one(0, 0, 0)...))
	for many := 17; many < 20; many++ {
		p := make(api.Prog, many)
		for i := range p {
			p[i].Code = []api.Instr{{}, ret}
		}
		l = append(l, p)
	}
	for _, p := range l {
		wantCheck(t, p, verdict{0, 0, errArg})
		for _, fn := range []int{-1, 0, 1, len(p)} {
			wantDepths(t, p, fn, nil)
		}
	}
}

// P8.1, 1: all numbers of arguments and locals.
func TestArity(t *testing.T) {
	for arity := range 17 {
		for locals := range 17 {
			is := safe
			if arity > locals {
				is = verdict{0, 0, errFunc}
			}
			wantLines(t, is, line("func", arity, locals, 0), line("trap 16"))
			if is != safe {
				is.fn = 2
			}
			wantLines(t, is, []string{"func 0 0 0", "trap 16", "func 3 4 0", "trap 16"}, line("func", arity, locals, 8), line("trap 16"))
		}
	}
}

// P8.1, 2: all fields of load and store, in functions with all numbers of locals.
func TestLocals(t *testing.T) {
	for locals := range 17 {
		for a := range 16 {
			is := safe
			if a >= locals {
				is = verdict{0, 1, errField}
			}
			wantLines(t, is, line("func 0", locals, 8), line("push 0 0"), line("store", a), line("trap 16"))
			wantLines(t, is, line("func 0", locals, 0), line("push 0 0"), line("load", a), line("trap 16"))
			wantLines(t, is, line("func 0", locals, 0), line("trap 16"), line("load", a)) // also where it is not reached
		}
	}
}

// P8.1, 2: all fields of join and of spawn, in functions with all numbers of slots and programs of all sizes.
func TestSlotsAndFuncs(t *testing.T) {
	for slots := range 9 {
		for b := range 8 {
			is := safe
			if b >= slots {
				is = verdict{0, 1, errField}
			}
			wantLines(t, is, line("func 0 16", slots), line("rand"), line("join", b), line("ret"))
			wantLines(t, is, line("func 0 0", slots), line("rand"), line("spawn 0", b), line("ret"))
			wantLines(t, is, line("func 0 0", slots), line("trap 16"), line("spawn 0", b))
		}
	}
	for funcs := 1; funcs <= 16; funcs++ {
		var rest []string
		for range funcs - 1 {
			rest = append(rest, "func 0 0 0", "trap 16")
		}
		for a := range 16 {
			is := safe
			if a >= funcs {
				is = verdict{0, 1, errField}
			}
			wantLines(t, is, line("func 0 0 1"), line("rand"), line("spawn", a, 0), line("ret"), rest)
			wantLines(t, is, line("func 0 0 1"), line("trap 16"), line("spawn", a, 0), rest)
		}
	}
}

// P8.1, 2: jump and zero in functions of all lengths.
func TestJumps(t *testing.T) {
	for many := 3; many <= 200; many++ {
		tail := some(many-2, "trap 16")
		for _, a := range []int{0, 1, 2, many - 1, many, many + 1, 199} {
			if a > 199 {
				continue
			}
			is := safe
			if a >= many {
				is = verdict{0, 1, errJump}
			}
			wantLines(t, is, line("func 0 0 0"), line("trap 16"), line("jump", a), tail)
			wantLines(t, is, line("func 0 0 0"), line("trap 16"), line("zero", a), tail)
			if is == safe && a == 0 {
				is = verdict{0, 1, errStack} // 0 is reached with depth 0, then with 1
			}
			wantLines(t, is, line("func 0 0 0"), line("push 0 0"), line("jump", a), tail)
		}
	}
}

// P8.1, 3: how many values each operation must find, and how many there may be after it.
func TestDepthOfEach(t *testing.T) {
	for _, c := range []struct {
		line         string
		pops, pushes int
	}{
		{"push 250 0", 0, 1},
		{"load 2", 0, 1},
		{"store 2", 1, 0},
		{"add", 2, 1},
		{"sub", 2, 1},
		{"mul", 2, 1},
		{"div", 2, 1},
		{"conj", 1, 1},
		{"dup", 1, 2},
		{"drop", 1, 0},
		{"jump 199", 0, 0},
		{"zero 199", 1, 0},
		{"rand", 0, 1},
		{"spawn 0 0", 0, 0},
		{"spawn 1 0", 1, 0},
		{"spawn 2 0", 2, 0},
		{"spawn 3 0", 15, 0},
		{"spawn 4 0", 16, 0},
		{"join 0", 0, 1},
		{"ret", 1, 0},
		{"trap 16", 0, 0},
	} {
		for depth := range 17 {
			is := safe
			if depth < c.pops || depth-c.pops+c.pushes > 16 {
				is = verdict{0, depth, errStack}
			}
			rest := []string{"func 1 4 0", "trap 16", "func 2 2 0", "trap 16", "func 15 16 0", "trap 16", "func 16 16 0", "trap 16"}
			wantLines(t, is, line("func 0 3 1"), some(depth, "push 1 1"), line(c.line), some(199-depth, "trap 16"), rest)
		}
	}
}

// P8.1, 3: the arguments of a function count for spawn, not its locals, its place or the function that spawns; a function behind may be the wrong one.
func TestSpawnArity(t *testing.T) {
	rest := []string{"func 3 7 5", "trap 16", "func 5 2 8", "trap 16"}
	for depth := range 9 {
		wantOf := func(pops int, is verdict) verdict {
			if depth < pops {
				return verdict{0, depth, errStack}
			}
			return is
		}
		behind := verdict{2, 0, errFunc}
		wantLines(t, wantOf(3, behind), line("func 2 2 2"), some(depth, "rand"), line("spawn 1 1"), line("trap 16"), rest)
		wantLines(t, wantOf(5, behind), line("func 2 2 2"), some(depth, "rand"), line("spawn 2 1"), line("trap 16"), rest)
		wantLines(t, wantOf(2, behind), line("func 2 2 2"), some(depth, "rand"), line("spawn 0 1"), line("trap 16"), rest)
	}
}

// P8.1, 3: there are 16 values at most.
func TestDepthMost(t *testing.T) {
	for many := range 100 {
		is := safe
		if many > 16 {
			is = verdict{0, 16, errStack}
		}
		wantLines(t, is, line("func 0 0 0"), some(many, "push 1 1"), line("trap 16"))
		if many > 0 && many <= 16 {
			wantLines(t, safe, line("func 0 0 0"), some(many, "rand"), some(many-1, "mul"), line("ret"))
			wantLines(t, verdict{0, 2 * many, errStack}, line("func 0 0 0"), some(many, "rand"), some(many, "drop"), line("drop"), line("trap 16"))
		}
	}
	wantLines(t, verdict{0, 16, errStack}, line("func 0 0 0"), some(1, "push 1 1"), some(199, "dup"))
}

// P8.1, 3: a successor behind the last place, for each operation that has one.
func TestBehindLast(t *testing.T) {
	for _, last := range []string{"push 0 0", "load 0", "store 0", "add", "sub", "mul", "div", "conj", "dup", "drop", "zero 0", "zero 2", "rand", "spawn 0 0", "join 0"} {
		wantLines(t, verdict{0, 2, errCode}, line("func 0 1 1"), some(2, "rand"), line(last))
		wantLines(t, safe, line("func 0 1 1"), line("jump 0"), line("rand"), line(last)) // where it is not reached
	}
	for _, last := range []string{"ret", "trap 16", "jump 2"} {
		wantLines(t, safe, line("func 0 1 1"), some(2, "rand"), line(last))
	}
	wantLines(t, safe, line("func 0 0 1"), some(199, "spawn 0 0"), line("trap 16"))
	wantLines(t, verdict{0, 199, errCode}, line("func 0 0 1"), some(200, "spawn 0 0"))
}

// P8.1: which error is told if there are several.
func TestFirstError(t *testing.T) {
	for _, c := range []struct {
		is    verdict
		lines []string
	}{
		// One function after the other, each of them as a whole.
		{verdict{0, 1, errStack}, []string{"func 0 0 0", "rand", "add", "ret", "func 2 1 0", "load 9"}},
		{verdict{0, 0, errCode}, []string{"func 0 0 0", "rand", "func 2 1 0", "ret"}},
		{verdict{1, 0, errFunc}, []string{"func 0 0 0", "trap 16", "func 2 1 0", "ret", "func 0 0 0", "drop"}},
		{verdict{1, 1, errField}, []string{"func 0 0 0", "trap 16", "func 0 1 0", "trap 16", "load 1", "func 1 0 0", "ret"}},
		{verdict{2, 0, errJump}, []string{"func 0 0 0", "trap 16", "func 0 0 0", "trap 16", "func 0 0 0", "jump 7"}},
		// What is wrong with a function's numbers, then with its fields, then with what it does.
		{verdict{0, 0, errFunc}, []string{"func 1 0 0", "drop", "load 0", "jump 9"}},
		{verdict{0, 2, errField}, []string{"func 0 0 0", "drop", "rand", "load 0"}},
		{verdict{0, 3, errJump}, []string{"func 0 0 0", "drop", "rand", "rand", "zero 4"}},
		// Fields in the order of the instructions, whatever their error is and though they are not reached.
		{verdict{0, 1, errField}, []string{"func 0 0 0", "trap 16", "join 0", "jump 9", "load 0"}},
		{verdict{0, 1, errJump}, []string{"func 0 0 0", "trap 16", "jump 9", "join 0", "load 0"}},
		{verdict{0, 0, errField}, []string{"func 0 0 0", "spawn 1 0", "spawn 1 0"}},
		// The smallest place that is reached goes first.
		{verdict{0, 1, errStack}, []string{"func 0 0 0", "jump 3", "drop", "drop", "jump 1"}},
		{verdict{0, 4, errStack}, []string{"func 0 0 0", "jump 3", "trap 16", "trap 16", "rand", "add"}},
		{verdict{0, 2, errStack}, []string{"func 0 0 0", "rand", "zero 3", "drop", "add"}},
		{verdict{0, 4, errStack}, []string{"func 0 0 0", "rand", "zero 4", "trap 16", "drop", "drop"}},
		{verdict{0, 1, errStack}, []string{"func 0 0 0", "jump 2", "add", "rand", "zero 5", "jump 1", "add"}},
		{verdict{0, 5, errStack}, []string{"func 0 0 0", "jump 2", "trap 16", "rand", "zero 5", "jump 1", "add"}},
		// The place that goes second tells that two depths differ, be it the smaller or the greater one.
		{verdict{0, 2, errStack}, []string{"func 0 0 0", "rand", "zero 3", "rand", "trap 16"}},
		{verdict{0, 3, errStack}, []string{"func 0 0 0", "rand", "rand", "zero 4", "drop", "trap 16"}},
		{verdict{0, 5, errStack}, []string{"func 0 0 0", "rand", "zero 4", "rand", "jump 6", "rand", "rand", "trap 16"}},
		{verdict{0, 2, errStack}, []string{"func 0 0 0", "rand", "rand", "jump 1", "trap 16"}},
		// A stack is told ahead of successors, the next place ahead of the other one.
		{verdict{0, 0, errStack}, []string{"func 0 0 0", "drop"}},
		{verdict{0, 0, errStack}, []string{"func 0 0 0", "zero 0"}},
		{verdict{0, 1, errCode}, []string{"func 0 0 0", "rand", "zero 1"}},
		{verdict{0, 1, errCode}, []string{"func 0 0 0", "rand", "drop"}},
		{verdict{0, 1, errStack}, []string{"func 0 0 0", "rand", "zero 1", "trap 16"}},
		{verdict{0, 16, errStack}, append(append([]string{"func 0 0 0"}, some(16, "rand")...), "dup")},
	} {
		wantCheck(t, parsed(t, c.lines...), c.is)
	}
}

// P8.1, 3: a place that is reached again with the same depth is right, with any other one it is not.
func TestReachedAgain(t *testing.T) {
	for first := range 17 {
		for second := range 17 {
			end, is := second+first+3, safe // reached with the depth second by a jump, with first by the place ahead of it
			switch {
			case first == second:
			case first == 0: // the end is what zero goes to, and so reached before the jump
				is = verdict{0, second + 2, errStack}
			default:
				is = verdict{0, end - 1, errStack}
			}
			wantLines(t, is, line("func 0 0 0"), line("rand"), line("zero", second+3), some(second, "rand"), line("jump", end), some(first, "rand"), line("trap 16"))
		}
	}
	for depth := range 17 {
		for back := range depth { // each place was passed with its number as depth
			wantLines(t, verdict{0, depth, errStack}, line("func 0 0 0"), some(depth, "rand"), line("jump", back))
		}
		wantLines(t, safe, line("func 0 0 0"), some(depth, "rand"), line("jump", depth))
		if depth < 16 {
			wantLines(t, safe, line("func 0 0 0"), some(depth, "rand"), line("rand"), line("zero", depth), line("jump", depth))
		}
	}
}

// P8.1: the biggest programs, and those whose places are reached from behind.
func TestBiggest(t *testing.T) {
	big := lines(line("func 16 16 8"), some(199, "spawn 0 7"), line("trap 255"))
	wantLines(t, verdict{0, 0, errStack}, big)
	calm := lines(line("func 0 16 8"), some(199, "spawn 15 7"), line("trap 255"))
	var all []string
	for range 16 {
		all = append(all, calm...)
	}
	p := parsed(t, all...)
	wantCheck(t, p, safe)
	p[15].Code[199] = api.Instr{Op: 13, A: 15, B: 7}
	wantCheck(t, p, verdict{15, 199, errCode})
	p[15].Code[199] = api.Instr{Op: 11, A: 199}
	wantCheck(t, p, verdict{15, 199, errStack})
	p[15].Code[199] = api.Instr{Op: 1, A: 15}
	p[15].Locals = 15
	wantCheck(t, p, verdict{15, 199, errField})

	from := line("func 0 0 0") // 0 goes to the last place, and each place from there on to the one ahead of it
	for at := range 200 {
		from = append(from, line("jump", (at+199)%200)...)
	}
	q := parsed(t, from...)
	wantCheck(t, q, safe)
	q[0].Code[1] = api.Instr{Op: 7}
	wantCheck(t, q, verdict{0, 1, errStack})
	q[0].Code[1] = api.Instr{Op: 12}
	q[0].Code[2] = api.Instr{Op: 10, A: 0}
	q[0].Code[0] = api.Instr{Op: 10, A: 1}
	wantCheck(t, q, verdict{0, 2, errStack})
}

// R4: no call changes the program that it is given, nor what lies behind it in its memory.
func TestArgumentsKept(t *testing.T) {
	d := dice(7)
	for range 300 {
		p := d.prog()
		if d.below(2) == 0 {
			d.spoil(p)
		}
		roomy := append(cloned(p), api.Func{Arity: 77})
		mark := api.Instr{Op: 99, A: 98, B: 97}
		for i := range roomy {
			many := len(roomy[i].Code)
			roomy[i].Code = append(roomy[i].Code, mark)[:many]
		}
		given := roomy[:len(p)]
		check.Check(given)
		check.Depths(given, 0)
		check.Depths(given, len(given))
		if !code.Same(given, p) || roomy[len(p)].Arity != 77 {
			t.Errorf("%s: it was changed, or what stands behind it", told(p))
		}
		for _, f := range given {
			if many := len(f.Code); f.Code[:many+1][many] != mark {
				t.Errorf("%s: what stands behind a function's instructions was changed", told(p))
			}
		}
	}
}
