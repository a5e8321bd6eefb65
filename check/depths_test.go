package check_test

import (
	"math"
	"slices"
	"testing"
	"transhumance/api"
	"transhumance/check"
	"transhumance/code"
)

// effects are how many values each operation pops and pushes, as chapter 6 tells it.
var effects = [17][2]int{{0, 1}, {0, 1}, {1, 0}, {2, 1}, {2, 1}, {2, 1}, {2, 1}, {1, 1}, {1, 2}, {1, 0}, {0, 0}, {1, 0}, {0, 1}, {0, 0}, {0, 1}, {1, 0}, {0, 0}}

// effect is what the chapter says of the instruction x of the program p.
func effect(p api.Prog, x api.Instr) (int, int) {
	if x.Op == 13 {
		return p[x.A].Arity, 0
	}
	return effects[x.Op][0], effects[x.Op][1]
}

// after are the successors of the instruction x at that place, the next place first.
func after(at int, x api.Instr) []int {
	var l []int
	if x.Op != 10 && x.Op != 15 && x.Op != 16 {
		l = append(l, at+1)
	}
	if x.Op == 10 || x.Op == 11 {
		l = append(l, x.A)
	}
	return l
}

// flowed is the third part of P8.1: the depths of the places of a function, and its first error.
func flowed(p api.Prog, f api.Func) (map[int]int, int, api.Errno) {
	depths, todo := map[int]int{0: 0}, []int{0}
	for len(todo) > 0 {
		slices.Sort(todo)
		at := todo[0]
		todo = todo[1:]
		pops, pushes := effect(p, f.Code[at])
		left := depths[at] - pops
		if left < 0 || left+pushes > 16 {
			return nil, at, errStack
		}
		for _, to := range after(at, f.Code[at]) {
			if to >= len(f.Code) {
				return nil, at, errCode
			}
			old, ok := depths[to]
			if ok && old != left+pushes {
				return nil, at, errStack
			}
			if !ok {
				depths[to] = left + pushes
				todo = append(todo, to)
			}
		}
	}
	return depths, 0, 0
}

// named is the second part of P8.1 for one instruction.
func named(p api.Prog, f api.Func, x api.Instr) api.Errno {
	bad := map[int]bool{1: x.A >= f.Locals, 2: x.A >= f.Locals, 14: x.A >= f.Slots, 13: x.B >= f.Slots || x.A >= len(p)}
	far := map[int]bool{10: x.A >= len(f.Code), 11: x.A >= len(f.Code)}
	switch {
	case bad[x.Op]:
		return errField
	case far[x.Op]:
		return errJump
	}
	return 0
}

// judged is what the chapter says of p, and the depths in its functions if it is safe.
func judged(p api.Prog) (verdict, [][]int) {
	if !code.May(p) {
		return verdict{0, 0, errArg}, nil
	}
	var all [][]int
	for fn, f := range p {
		if f.Arity > f.Locals {
			return verdict{fn, 0, errFunc}, nil
		}
		for at, x := range f.Code {
			if e := named(p, f, x); e != 0 {
				return verdict{fn, at, e}, nil
			}
		}
		depths, at, e := flowed(p, f)
		if e != 0 {
			return verdict{fn, at, e}, nil
		}
		var l []int
		for at := range f.Code {
			d, ok := depths[at]
			if !ok {
				d = -1
			}
			l = append(l, d)
		}
		all = append(all, l)
	}
	return safe, all
}

// wantAsJudged: what the chapter says of p, and of each of its functions; it tells what that is.
func wantAsJudged(t *testing.T, p api.Prog) verdict {
	t.Helper()
	is, depths := judged(p)
	wantCheck(t, p, is)
	for fn := -1; fn <= len(p); fn++ {
		var l []int
		if fn >= 0 && fn < len(depths) {
			l = depths[fn]
		}
		wantDepths(t, p, fn, l)
	}
	return is
}

func wantDepths(t *testing.T, p api.Prog, fn int, is []int) {
	t.Helper()
	if got := check.Depths(p, fn); !slices.Equal(got, is) {
		t.Errorf("Depths of function %d of %s: %d, want %d", fn, told(p), got, is)
	}
}

// cloned is p in other memory.
func cloned(p api.Prog) api.Prog {
	q := slices.Clone(p)
	for i := range q {
		q[i].Code = slices.Clone(q[i].Code)
	}
	return q
}

// dice draws numbers, always the same ones.
type dice uint64

// below draws a number from 0 to many - 1.
func (d *dice) below(many int) int {
	*d = *d*6364136223846793005 + 1442695040888963407
	return int(uint64(*d)>>33) % many
}

// prog draws a program that is safe.
func (d *dice) prog() api.Prog {
	p := make(api.Prog, 1+d.below(1+d.below(16)))
	for i := range p {
		locals := d.below(17)
		p[i] = api.Func{Arity: d.below(1 + d.below(locals+1)), Locals: locals, Slots: d.below(9)}
	}
	for i := range p {
		d.fill(p, &p[i], 1+d.below(1+d.below(200)))
	}
	return p
}

// fill draws the instructions of a function of p, each with a depth that is right for it.
func (d *dice) fill(p api.Prog, f *api.Func, many int) {
	var depths []int
	depth := 0
	for at := range many {
		x := d.fitting(p, *f, depth, at == many-1)
		f.Code, depths = append(f.Code, x), append(depths, depth)
		pops, pushes := effect(p, x)
		depth += pushes - pops
		if len(after(at, x)) == 0 || x.Op == 10 { // what stands behind is reached from elsewhere, or not at all
			depth = d.below(4)
		}
	}
	for at, x := range f.Code {
		pops, _ := effect(p, x)
		for x.Op == 10 || x.Op == 11 {
			if to := d.below(many); depths[to] == depths[at]-pops {
				f.Code[at].A = to
				break
			}
		}
	}
}

// fitting draws an instruction that finds its values, locals, slots and functions; the last one of a function is followed by none.
func (d *dice) fitting(p api.Prog, f api.Func, depth int, last bool) api.Instr {
	for {
		x := d.instr(16)
		if x.Op == 10 || x.Op == 11 {
			x.A = 0 // it is chosen when all places are there
		}
		if named(p, f, x) != 0 && x.Op != 10 && x.Op != 11 {
			continue
		}
		ends := x.Op == 10 || x.Op == 15 || x.Op == 16
		if last && !ends || ends && !last && d.below(4) > 0 {
			continue
		}
		if pops, pushes := effect(p, x); depth >= pops && depth-pops+pushes <= 16 {
			return x
		}
	}
}

// instr draws a valid instruction; a place that it names is below most.
func (d *dice) instr(most int) api.Instr {
	x := api.Instr{Op: d.below(17)}
	switch x.Op {
	case 0:
		x.A, x.B = d.below(251), d.below(251)
	case 1, 2:
		x.A = d.below(1 + d.below(16))
	case 10, 11:
		x.A = d.below(most)
	case 13:
		x.A, x.B = d.below(1+d.below(16)), d.below(1+d.below(8))
	case 14:
		x.A = d.below(1 + d.below(8))
	case 16:
		x.A = 16 + d.below(240)
	}
	return x
}

// spoil changes a program at one place, which may make it unsafe.
func (d *dice) spoil(p api.Prog) {
	f := &p[d.below(len(p))]
	at := d.below(len(f.Code))
	switch d.below(8) {
	case 0:
		f.Arity = d.below(17)
	case 1:
		f.Locals = d.below(17)
	case 2:
		f.Slots = d.below(9)
	case 3:
		f.Code = slices.Delete(f.Code, at, min(at+1, len(f.Code)-1))
	case 4:
		f.Code = slices.Insert(f.Code, at, d.instr(1+len(f.Code)))[:min(200, len(f.Code)+1)]
	default:
		f.Code[at] = d.instr(min(200, len(f.Code)+2))
	}
}

// P8.1: depths that are written out.
func TestDepths(t *testing.T) {
	for _, c := range []struct {
		is    []int
		lines []string
	}{
		{[]int{0, 1}, []string{"func 0 0 0", "push 1 0", "ret"}},
		{[]int{0}, []string{"func 0 0 0", "trap 16"}},
		{[]int{0}, []string{"func 0 0 0", "jump 0"}},
		{[]int{0, -1, -1}, []string{"func 0 0 0", "trap 16", "add", "push 1 0"}},
		{[]int{0, -1, 0, 1}, []string{"func 0 0 0", "jump 2", "drop", "rand", "ret"}},
		{[]int{0, 1, 0, 1, 0, -1}, []string{"func 1 2 0", "load 0", "zero 4", "push 1 0", "ret", "trap 20", "add"}},
		{[]int{0, 1, 2, 3, 4, 1, 2, 1, 1, 0}, []string{"func 3 3 1", "rand", "dup", "load 2", "push 9 9", "spawn 0 0", "join 0", "div", "conj", "store 0", "trap 16"}},
		{[]int{0, 2, 1, 0, 1, 2}, []string{"func 0 0 0", "jump 3", "sub", "ret", "rand", "dup", "jump 1"}},
	} {
		wantDepths(t, parsed(t, c.lines...), 0, c.is)
	}
}

// P8.1: each function has depths of its own; there are none where there is no function, and none of a program that is not safe.
func TestDepthsOfNone(t *testing.T) {
	l := []string{"func 0 0 0", "trap 16", "func 0 0 0", "rand", "ret", "func 0 0 0", "trap 16", "rand", "ret", "trap 17"}
	p := parsed(t, l...)
	wantDepths(t, p, 0, []int{0})
	wantDepths(t, p, 1, []int{0, 1})
	wantDepths(t, p, 2, []int{0, -1, -1, -1})
	for _, fn := range []int{-1, -2, -3, 3, 4, 16, 256, 1 << 32, 1<<32 + 1, -1 << 32, math.MinInt, math.MinInt + 1, math.MaxInt} {
		wantDepths(t, p, fn, nil)
	}
	for at := range 3 { // one function that is wrong leaves none with depths
		for _, f := range []api.Func{{Arity: 1, Code: p[0].Code}, {Code: []api.Instr{{Op: 1}}}, {Code: []api.Instr{{Op: 10, A: 1}}}, {Code: []api.Instr{{Op: 9}}}, {Code: []api.Instr{{Op: 0}}}, {Code: []api.Instr{{Op: 17}}}, {}} {
			q := cloned(p)
			q[at] = f
			for fn := range 4 {
				wantDepths(t, q, fn, nil)
			}
		}
	}
}

// P8.1: all small functions.
func TestAllSmall(t *testing.T) {
	few := []api.Instr{{Op: 0}, {Op: 2}, {Op: 3}, {Op: 8}, {Op: 13, A: 1}, {Op: 15}, {Op: 16, A: 16}}
	less := []api.Instr{{Op: 12}, {Op: 9}, {Op: 16, A: 16}}
	for many := 1; many <= 4; many++ {
		l := few
		for a := range many + 1 {
			l = append(l, api.Instr{Op: 10, A: a}, api.Instr{Op: 11, A: a})
		}
		wantAll(t, l, many)
	}
	for a := range 5 {
		less = append(less, api.Instr{Op: 10, A: a}, api.Instr{Op: 11, A: a})
	}
	wantAll(t, less, 5)
}

// wantAll: what the chapter says of all functions of that many instructions from among l.
func wantAll(t *testing.T, l []api.Instr, many int) {
	t.Helper()
	all := 1
	for range many {
		all *= len(l)
	}
	p := api.Prog{{Locals: 1, Slots: 1, Code: make([]api.Instr, many)}, {Arity: 2, Locals: 2, Code: []api.Instr{{Op: 16, A: 16}}}}
	found := make(map[api.Errno]int)
	for n := range all {
		for at := range many {
			p[0].Code[at] = l[n%len(l)]
			n /= len(l)
		}
		is, depths := judged(p)
		wantCheck(t, p, is)
		if is == safe {
			wantDepths(t, p, 0, depths[0])
		}
		found[is.e]++
		if t.Failed() {
			return
		}
	}
	if found[0] == 0 || found[errStack] == 0 || found[errCode] == 0 {
		t.Errorf("of %d functions of %d instructions: %v", all, many, found)
	}
}

// P8.1: programs that are drawn, safe ones and those with a few changes.
func TestDrawn(t *testing.T) {
	d := dice(1)
	found := make(map[api.Errno]int)
	for range 4000 {
		p := d.prog()
		if is := wantAsJudged(t, p); is != safe {
			t.Fatalf("%s is not safe: %v", told(p), is)
		}
		for range 4 {
			d.spoil(p)
			found[wantAsJudged(t, p).e]++
		}
		if t.Failed() {
			return
		}
	}
	for _, e := range []api.Errno{0, errFunc, errCode, errField, errJump, errStack} {
		if found[e] < 50 {
			t.Errorf("error %d only %d times", e, found[e])
		}
	}
}

// P8.2: on every way through a function, each place is one that is reached, and the stack has its depth.
func TestWalks(t *testing.T) {
	d := dice(2)
	for range 1000 {
		p := d.prog()
		d.spoil(p)
		if _, _, e := check.Check(p); e != api.OK {
			continue
		}
		for fn := range p {
			for range 20 {
				d.walk(t, p, fn)
			}
		}
	}
}

// walk goes through a function with a stack of values, and draws which way it goes on.
func (d *dice) walk(t *testing.T, p api.Prog, fn int) {
	t.Helper()
	depths := check.Depths(p, fn)
	at, stack := 0, []int{}
	for range 300 {
		if at >= len(depths) || depths[at] != len(stack) {
			t.Fatalf("function %d of %s at place %d: %d values, but depths %d", fn, told(p), at, len(stack), depths)
		}
		pops, pushes := effect(p, p[fn].Code[at])
		if pops > len(stack) || len(stack)-pops+pushes > 16 {
			t.Fatalf("function %d of %s at place %d: %d values, %d of them popped and %d pushed", fn, told(p), at, len(stack), pops, pushes)
		}
		stack = append(stack[:len(stack)-pops], make([]int, pushes)...)
		ways := after(at, p[fn].Code[at])
		if len(ways) == 0 {
			return
		}
		at = ways[d.below(len(ways))]
	}
}

// R3, R4: what was returned before is neither kept nor changed.
func TestResultsApart(t *testing.T) {
	d := dice(3)
	for range 100 {
		p := d.prog()
		for fn := range p {
			l := check.Depths(p, fn)
			is := slices.Clone(l)
			for at := range l {
				l[at] = 99
			}
			wantDepths(t, p, fn, is)
			wantCheck(t, p, safe)
		}
	}
}

// P8.1, P8.2: whatever the programs are.
func FuzzChecks(f *testing.F) {
	d := dice(4)
	for n := range 20 {
		f.Add(code.Encode(d.prog()), n, n-10)
	}
	f.Add("\x01\x00\x00\x00\x02\x0c\x0b\x00", 1, 2)
	f.Fuzz(func(t *testing.T, bytes string, seed, change int) {
		if p, e := code.Decode(bytes); e == api.OK {
			wantAsJudged(t, p)
		}
		wantAsJudged(t, made(bytes))
		d := dice(seed)
		p := d.prog()
		wantAsJudged(t, p)
		p[0].Code[uint(change)%uint(len(p[0].Code))].A = change
		wantAsJudged(t, p)
		check.Depths(p, change)
		d.spoil(p)
		if wantAsJudged(t, p) == safe {
			d.walk(t, p, 0)
		}
	})
}

// made is a program of three functions with instructions by the bytes.
func made(bytes string) api.Prog {
	p := api.Prog{{Arity: 1, Locals: 2, Slots: 1}, {Locals: 1, Slots: 3}, {Arity: 3, Locals: 3}}
	for i := 0; i+1 < len(bytes) && i < 600; i += 2 {
		f, x := &p[i/2%3], api.Instr{Op: int(bytes[i] % 17), A: int(bytes[i+1])}
		switch x.Op {
		case 10, 11:
			x.A %= 1 + len(bytes)/6
		case 0, 1, 2, 14:
			x.A %= 3
		case 13:
			x.A, x.B = x.A%4, x.A%3
		case 16:
			x.A = 16
		default:
			x.A = 0
		}
		f.Code = append(f.Code, x)
	}
	return p
}
