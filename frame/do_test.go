package frame_test

import (
	"fmt"
	"math"
	"slices"
	"testing"
	"transhumance/api"
	"transhumance/frame"
	"transhumance/seed"
)

// around is a program of four functions that take 2, 0, 3 and 0 arguments; strange() is at the instruction x of the second one.
func around(x api.Instr) api.Prog {
	rest := api.Instr{Op: 16, A: 200}
	return api.Prog{
		{Arity: 2, Locals: 2, Slots: 1, Code: []api.Instr{rest}},
		{Locals: 3, Slots: 4, Code: []api.Instr{rest, rest, x, rest}},
		{Arity: 3, Locals: 5, Code: []api.Instr{rest, rest, rest}},
		{Code: []api.Instr{rest}},
	}
}

// wantDo: what becomes of f, and what is asked for.
func wantDo(t *testing.T, p api.Prog, f, is api.Frame, act api.Act) {
	t.Helper()
	what := "Do of " + told(f)
	if f.Fn >= 0 && f.Fn < len(p) && f.Pc >= 0 && f.Pc < len(p[f.Fn].Code) {
		what = fmt.Sprintf("Do of %+v, %s", p[f.Fn].Code[f.Pc], what)
	}
	g, got := frame.Do(p, f)
	wantFrame(t, what, g, is)
	if fmt.Sprintf("%+v", got) != fmt.Sprintf("%+v", act) {
		t.Errorf("%s: act %+v, want %+v", what, got, act)
	}
}

// trapped is f that ends with the trap of that code.
func trapped(f api.Frame, code int) api.Frame {
	f = cloned(f)
	f.State, f.Out = ends, api.Out{Trap: code}
	return f
}

func wantTrap(t *testing.T, p api.Prog, f api.Frame, code int) {
	t.Helper()
	wantDo(t, p, f, trapped(f, code), api.Act{Kind: actEnd})
}

// passed is f at the next place, with the top values replaced: that many popped, these pushed.
func passed(f api.Frame, pops int, pushed ...api.Value) api.Frame {
	f = cloned(f)
	f.Pc++
	f.Stack = append(f.Stack[:len(f.Stack)-pops], pushed...)
	return f
}

func wantGo(t *testing.T, x api.Instr, f, is api.Frame) {
	t.Helper()
	wantDo(t, around(x), f, is, api.Act{Kind: actGo})
}

// P9.2: the instructions that only work on the stack and the locals; strange() has the values 1+250i to 5+246i, 5+246i on top.
func TestValues(t *testing.T) {
	f := strange()
	wantGo(t, api.Instr{Op: 0, A: 11, B: 250}, f, passed(f, 0, api.Value{Re: 11, Im: 250}))
	wantGo(t, api.Instr{Op: 0}, f, passed(f, 0, api.Value{}))
	for a := range 3 {
		wantGo(t, api.Instr{Op: 1, A: a}, f, passed(f, 0, api.Value{Re: 70 + 2*a, Im: 71 + 2*a}))
		is := passed(f, 1)
		is.Locals[a] = api.Value{Re: 5, Im: 246}
		wantGo(t, api.Instr{Op: 2, A: a}, f, is)
	}
	wantGo(t, api.Instr{Op: 3}, f, passed(f, 2, api.Value{Re: 9, Im: 242}))
	wantGo(t, api.Instr{Op: 4}, f, passed(f, 2, api.Value{Re: 250, Im: 1}))
	wantGo(t, api.Instr{Op: 5}, f, passed(f, 2, api.Value{Re: 4*5 - 4*5, Im: 251 - 4*5 - 4*5})) // (4 - 4i)(5 - 5i) is -40i
	f.Stack[3], f.Stack[4] = api.Value{Re: 251 - 5, Im: 10}, api.Value{Re: 3, Im: 4}
	wantGo(t, api.Instr{Op: 6}, f, passed(f, 2, api.Value{Re: 1, Im: 2})) // (1 + 2i)(3 + 4i) is -5 + 10i
	wantGo(t, api.Instr{Op: 7}, f, passed(f, 1, api.Value{Re: 3, Im: 247}))
	wantGo(t, api.Instr{Op: 8}, f, passed(f, 0, api.Value{Re: 3, Im: 4}))
	wantGo(t, api.Instr{Op: 9}, f, passed(f, 1))
}

// P9.2: values that are not reduced are carried as they are, and reduced where they are computed with.
func TestWideValues(t *testing.T) {
	f := strange()
	f.Stack = []api.Value{{Re: -1, Im: 252}, {Re: 251 * 4, Im: -251}}
	f.Locals[1] = api.Value{Re: math.MinInt, Im: math.MaxInt}
	wantGo(t, api.Instr{Op: 1, A: 1}, f, passed(f, 0, f.Locals[1]))
	is := passed(f, 1)
	is.Locals[1] = f.Stack[1]
	wantGo(t, api.Instr{Op: 2, A: 1}, f, is)
	wantGo(t, api.Instr{Op: 8}, f, passed(f, 0, f.Stack[1]))
	wantGo(t, api.Instr{Op: 3}, f, passed(f, 2, api.Value{Re: 250, Im: 1}))
	wantGo(t, api.Instr{Op: 4}, f, passed(f, 2, api.Value{Re: 250, Im: 1}))
	wantGo(t, api.Instr{Op: 5}, f, passed(f, 2, api.Value{}))
	wantTrap(t, around(api.Instr{Op: 6}), f, trapZero)
	is = passed(f, 1)
	is.Pc = 150
	wantGo(t, api.Instr{Op: 11, A: 150}, f, is)
	is = passed(f, 1)
	is.Pc, is.State, is.Out = 2, ends, api.Out{V: f.Stack[1]}
	wantDo(t, around(api.Instr{Op: 15}), f, is, api.Act{Kind: actEnd})
	f.Stack = f.Stack[:1]
	wantGo(t, api.Instr{Op: 7}, f, passed(f, 1, api.Value{Re: 250, Im: 250}))
	wantGo(t, api.Instr{Op: 11, A: 150}, f, passed(f, 1))
	f.Slots[2].Out.V = f.Locals[1]
	is = passed(f, 0, f.Locals[1])
	is.Slots[2] = api.Slot{}
	wantGo(t, api.Instr{Op: 14, A: 2}, f, is)
}

// P9.2: a division by 0 pops nothing; a 0 that is divided is none.
func TestDivision(t *testing.T) {
	f := strange()
	for _, zero := range []api.Value{{}, {Re: 251}, {Im: -251}, {Re: -502, Im: 251 << 20}} {
		f.Stack[3], f.Stack[4] = api.Value{Re: 9, Im: 9}, zero
		wantTrap(t, around(api.Instr{Op: 6}), f, trapZero)
		f.Stack[3] = api.Value{}
		wantTrap(t, around(api.Instr{Op: 6}), f, trapZero)
		f.Stack[3], f.Stack[4] = zero, api.Value{Im: 1}
		wantGo(t, api.Instr{Op: 6}, f, passed(f, 2, api.Value{}))
	}
}

// P9.2: jump and zero go on at any place, whether there is one or not.
func TestJumps(t *testing.T) {
	for a := range 200 {
		f := strange()
		is := cloned(f)
		is.Pc = a
		wantGo(t, api.Instr{Op: 10, A: a}, f, is)
		for _, v := range []api.Value{{Re: 1}, {Im: 1}, {Re: 250}, {Im: 250}, {Re: -1, Im: 1}, {Re: 252, Im: 251}, {Re: 1 << 32}} {
			f.Stack[4] = v
			wantGo(t, api.Instr{Op: 11, A: a}, f, passed(f, 1))
		}
		for _, v := range []api.Value{{}, {Re: 251}, {Im: 502}, {Re: -251, Im: 251}} {
			f.Stack[4] = v
			is = passed(f, 1)
			is.Pc = a
			wantGo(t, api.Instr{Op: 11, A: a}, f, is)
		}
	}
}

// odd are numbers at the edges of what there can be.
var odd = []int{-1, 0, 1, 1<<32 - 1, 1 << 32, math.MaxInt, math.MinInt}

// P9.2: values are drawn of the seed and of how many were drawn before; numbers of seeds that there are not draw 0.
func TestRand(t *testing.T) {
	for _, s := range append([]int{123456, 1<<32 - 2}, odd...) {
		for _, draws := range append([]int{6, 1<<32 - 2}, odd...) {
			f := strange()
			f.Seed, f.Draws = s, draws
			is := passed(f, 0, seed.Draw(s, draws))
			is.Draws = draws + 1 // R6: it wraps around
			wantGo(t, api.Instr{Op: 12}, f, is)
		}
	}
	f := strange()
	first, _ := frame.Do(around(api.Instr{Op: 12}), f)
	first.Pc = 2
	second, _ := frame.Do(around(api.Instr{Op: 12}), first)
	if a, b := second.Stack[5], second.Stack[6]; a != seed.Draw(123456, 6) || b != seed.Draw(123456, 7) || a == b {
		t.Errorf("drawn: %v and %v", a, b)
	}
}

// P9.2: a spawn asks for a child with the top values, the topmost one last, and with a seed of its own.
func TestSpawn(t *testing.T) {
	for fn, arity := range []int{2, 0, 3, 0} {
		for _, s := range append([]int{123456}, odd...) {
			for _, spawned := range append([]int{5}, odd...) {
				f := strange()
				f.Seed, f.Spawned = s, spawned
				is := passed(f, arity)
				is.Slots[0] = api.Slot{State: busy, Kid: nobody}
				is.Spawned = spawned + 1
				act := api.Act{Kind: actSpawn, Fn: fn, Slot: 0, Seed: seed.Child(s, spawned), Args: f.Stack[5-arity:]}
				wantDo(t, around(api.Instr{Op: 13, A: fn}), f, is, act)
			}
		}
	}
	f := strange()
	f.Slots = make([]api.Slot, 8)
	for slot := range 8 {
		is := passed(f, 3)
		is.Slots[slot] = api.Slot{State: busy, Kid: nobody}
		is.Spawned++
		act := api.Act{Kind: actSpawn, Fn: 2, Slot: slot, Seed: seed.Child(123456, 5), Args: some(5)[2:]}
		wantDo(t, around(api.Instr{Op: 13, A: 2, B: slot}), f, is, act)
	}
}

// P9.2: a spawn into a slot that is not empty traps, pops nothing and counts nothing; what else is in an empty slot stays.
func TestSpawnSlot(t *testing.T) {
	for _, state := range []int{-1, busy, done, 3, 4, 1 << 32, math.MinInt, math.MaxInt} {
		f := strange()
		f.Slots[0].State = state
		wantTrap(t, around(api.Instr{Op: 13, A: 2}), f, trapSlot)
	}
	for slot := 1; slot < 4; slot++ {
		wantTrap(t, around(api.Instr{Op: 13, A: 3, B: slot}), strange(), trapSlot)
	}
	f := strange()
	f.Slots[0] = api.Slot{Kid: api.Ref{At: 6, Gen: 7}, Out: api.Out{Trap: 8, V: api.Value{Re: 9, Im: 10}}}
	is := passed(f, 0)
	is.Slots[0] = api.Slot{State: busy, Kid: nobody, Out: f.Slots[0].Out}
	is.Spawned++
	wantDo(t, around(api.Instr{Op: 13, A: 1}), f, is, api.Act{Kind: actSpawn, Fn: 1, Seed: seed.Child(123456, 5)})
}

// P9.2: a join waits for a child that is under way, takes the end of one that has ended, and traps where there is none.
func TestJoin(t *testing.T) {
	f := strange()
	is := cloned(f)
	is.State, is.Wait = waits, 1
	wantDo(t, around(api.Instr{Op: 14, A: 1}), f, is, api.Act{Kind: actWait})
	is = passed(f, 0, api.Value{Re: 32, Im: 33})
	is.Slots[2] = api.Slot{}
	wantGo(t, api.Instr{Op: 14, A: 2}, f, is)
	for _, code := range []int{99, 1, 2, 3, 4, 255, -1, math.MinInt, math.MaxInt} {
		f.Slots[3].Out.Trap = code
		is = trapped(f, code)
		is.Slots[3] = api.Slot{}
		wantDo(t, around(api.Instr{Op: 14, A: 3}), f, is, api.Act{Kind: actEnd})
	}
	for _, state := range []int{-1, empty, 3, 4, 1<<32 + 1, 1<<32 + 2, math.MinInt, math.MaxInt} {
		f.Slots[2].State = state
		wantTrap(t, around(api.Instr{Op: 14, A: 2}), f, trapSlot)
	}
	f.Slots[2] = api.Slot{State: done, Kid: api.Ref{At: 8, Gen: 9}} // a 0 is a value too
	is = passed(f, 0, api.Value{})
	is.Slots[2] = api.Slot{}
	wantGo(t, api.Instr{Op: 14, A: 2}, f, is)
}

// P9.2: a task ends with the value that is on top, or with the code that it tells.
func TestEnds(t *testing.T) {
	f := strange()
	is := passed(f, 1)
	is.Pc, is.State, is.Out = 2, ends, api.Out{V: api.Value{Re: 5, Im: 246}}
	wantDo(t, around(api.Instr{Op: 15}), f, is, api.Act{Kind: actEnd})
	f.Stack = append(f.Stack, api.Value{})
	is = passed(f, 1)
	is.Pc, is.State, is.Out = 2, ends, api.Out{}
	wantDo(t, around(api.Instr{Op: 15}), f, is, api.Act{Kind: actEnd})
	for code := 16; code <= 255; code++ {
		wantTrap(t, around(api.Instr{Op: 16, A: code}), f, code)
	}
}

// each are all operations, with fields that strange() knows, and what chapter 6 says that they pop and push.
var each = []struct {
	x            api.Instr
	pops, pushes int
}{
	{api.Instr{Op: 0, A: 1, B: 1}, 0, 1},
	{api.Instr{Op: 1, A: 1}, 0, 1},
	{api.Instr{Op: 2, A: 1}, 1, 0},
	{api.Instr{Op: 3}, 2, 1},
	{api.Instr{Op: 4}, 2, 1},
	{api.Instr{Op: 5}, 2, 1},
	{api.Instr{Op: 6}, 2, 1},
	{api.Instr{Op: 7}, 1, 1},
	{api.Instr{Op: 8}, 1, 2},
	{api.Instr{Op: 9}, 1, 0},
	{api.Instr{Op: 10, A: 1}, 0, 0},
	{api.Instr{Op: 11, A: 1}, 1, 0},
	{api.Instr{Op: 12}, 0, 1},
	{api.Instr{Op: 13, A: 0}, 2, 0},
	{api.Instr{Op: 13, A: 1}, 0, 0},
	{api.Instr{Op: 13, A: 2}, 3, 0},
	{api.Instr{Op: 13, A: 2, B: 1}, 3, 0}, // a stack is told ahead of a slot
	{api.Instr{Op: 14, A: 0}, 0, 1},
	{api.Instr{Op: 14, A: 1}, 0, 1},
	{api.Instr{Op: 14, A: 2}, 0, 1},
	{api.Instr{Op: 14, A: 3}, 0, 1},
	{api.Instr{Op: 15}, 1, 0},
	{api.Instr{Op: 16, A: 77}, 0, 0},
}

// P9.2, 2: how many values each instruction must find, and how many there may be after those that push some.
func TestStack(t *testing.T) {
	for _, c := range each {
		for depth := range 40 {
			f := strange()
			f.Stack = some(depth)
			if depth < c.pops || c.pushes > 0 && depth-c.pops+c.pushes > 16 {
				wantTrap(t, around(c.x), f, trapStack)
				continue
			}
			is, _ := executed(around(c.x), f)
			g, _ := frame.Do(around(c.x), f)
			wantFrame(t, fmt.Sprintf("Do of %v with %d values", c.x, depth), g, is)
			if g.Out.Trap == trapStack || g.Out.Trap == trapPlace {
				t.Errorf("Do of %v with %d values: trap %d", c.x, depth, g.Out.Trap)
			}
		}
	}
}

// P9.2, 2: the number of values that a spawn pops is any function's number of arguments, be it that of no function that can be.
func TestSpawnArity(t *testing.T) {
	for _, arity := range []int{-1, -2, -1 << 32, math.MinInt, math.MinInt + 1, 6, 7, 17, 1 << 32, 1<<32 + 1, math.MaxInt} {
		p := around(api.Instr{Op: 13, A: 2})
		p[2].Arity = arity
		wantTrap(t, p, strange(), trapStack)
		f := strange()
		f.Slots[0].State = busy // that is told later
		wantTrap(t, p, f, trapStack)
		f.Stack = nil
		wantTrap(t, p, f, trapStack)
	}
	for arity := range 41 { // as many as there are
		p := around(api.Instr{Op: 13, A: 2})
		p[2] = api.Func{Arity: arity}
		f := strange()
		f.Stack = some(40)
		is := passed(f, arity)
		is.Slots[0] = api.Slot{State: busy, Kid: nobody}
		is.Spawned++
		wantDo(t, p, f, is, api.Act{Kind: actSpawn, Fn: 2, Seed: seed.Child(123456, 5), Args: some(40)[40-arity:]})
	}
}

// P9.2, 1: places that there are not, in functions of several lengths.
func TestPlaces(t *testing.T) {
	for _, many := range []int{0, 1, 2, 3, 200, 1000} {
		p := around(api.Instr{})
		p[1].Code = slices.Repeat([]api.Instr{{Op: 16, A: 90}}, many)
		for _, pc := range []int{-1, -2, many, many + 1, 1 << 32, 1<<32 + 1, -1 << 32, math.MinInt, math.MinInt + 1, math.MaxInt} {
			f := strange()
			f.Pc = pc
			wantTrap(t, p, f, trapPlace)
		}
		for pc := range many {
			f := strange()
			f.Pc = pc
			wantTrap(t, p, f, 90)
		}
	}
}

// P9.2, 1: instructions that are not valid, with nothing on the stack too, since that is told later.
func TestInstructions(t *testing.T) {
	var l []api.Instr
	for _, n := range []int{-1, 17, 18, 251, 256, 1 << 32, 1<<32 + 10, math.MinInt, math.MaxInt} {
		l = append(l, api.Instr{Op: n})
		if n < 0 || n > 250 {
			l = append(l, api.Instr{Op: 0, A: n}, api.Instr{Op: 0, B: n})
		}
		for _, c := range each {
			b, ab := c.x, c.x
			b.B, ab.A, ab.B = n, n, n
			if c.x.Op != 0 {
				l = append(l, b, ab)
			}
		}
	}
	for _, op := range []int{3, 4, 5, 6, 7, 8, 9, 12, 15} {
		l = append(l, api.Instr{Op: op, A: 1}, api.Instr{Op: op, A: -1}, api.Instr{Op: op, B: 1})
	}
	l = append(l, api.Instr{Op: 1, A: 16}, api.Instr{Op: 2, A: 16}, api.Instr{Op: 10, A: 200}, api.Instr{Op: 11, A: 200}, api.Instr{Op: 13, A: 16}, api.Instr{Op: 13, B: 8}, api.Instr{Op: 14, A: 8}, api.Instr{Op: 10, A: -1})
	for code := -3; code < 16; code++ {
		l = append(l, api.Instr{Op: 16, A: code})
	}
	for _, x := range append(l, api.Instr{Op: 16, A: 256}) {
		p := around(x)
		for range 20 {
			p = append(p, api.Func{})
		}
		f := strange()
		f.Locals, f.Slots = some(20), make([]api.Slot, 20)
		wantTrap(t, p, f, trapPlace)
		f.Stack = nil
		wantTrap(t, p, f, trapPlace)
	}
}

// P9.2, 1: locals and slots are those of the frame, functions those of the program.
func TestFields(t *testing.T) {
	for many := range 19 {
		for a := range 16 {
			for _, x := range []api.Instr{{Op: 1, A: a}, {Op: 2, A: a}, {Op: 13, A: 1, B: a}, {Op: 14, A: a}, {Op: 13, A: a}} {
				f := strange()
				p := around(x)
				switch {
				case x.Op < 3:
					f.Locals = some(many)
				case x.B > 7 || x.Op == 14 && a > 7 || many < 4:
					continue
				case x.Op == 13 && x.B == 0:
					p = append(p, make(api.Prog, many-4)...)
				default:
					f.Slots = make([]api.Slot, many)
				}
				is, act := executed(p, f)
				if a >= many {
					is, act = trapped(f, trapPlace), api.Act{Kind: actEnd}
				}
				wantDo(t, p, f, is, act)
				if a >= many { // with a stack that is too small or too big as well
					f.Stack = nil
					wantTrap(t, p, f, trapPlace)
					f.Stack = some(17)
					wantTrap(t, p, f, trapPlace)
				}
			}
		}
	}
	f := strange()
	f.Slots = nil
	for _, x := range []api.Instr{{Op: 13, A: 1}, {Op: 13, A: 9}, {Op: 14}, {Op: 14, A: 7}} {
		wantTrap(t, around(x), f, trapPlace)
	}
	for _, x := range []api.Instr{{Op: 13, A: 4, B: 0}, {Op: 13, A: 3, B: 4}, {Op: 13, A: 15, B: 1}} { // where the slot is busy too
		wantTrap(t, around(x), strange(), trapPlace)
	}
}

// P9.2: nothing is done with a frame that is not ready, or whose function there is not.
func TestNothing(t *testing.T) {
	for _, x := range []api.Instr{{Op: 0, A: 1}, {Op: 15}, {Op: 13, A: 1}, {Op: 14, A: 1}, {Op: 99}} {
		for _, state := range []int{-1, waits, ends, 3, 4, 1 << 32, math.MinInt, math.MaxInt} {
			f := strange()
			f.State = state
			wantDo(t, around(x), f, f, api.Act{})
			f.Pc = -1
			wantDo(t, around(x), f, f, api.Act{})
		}
		for _, fn := range []int{-1, -2, 4, 5, 15, 16, 1 << 32, 1<<32 + 1, -1 << 32, math.MinInt, math.MinInt + 1, math.MaxInt} {
			f := strange()
			f.Fn = fn
			wantDo(t, around(x), f, f, api.Act{})
			f.State = ends
			wantDo(t, around(x), f, f, api.Act{})
		}
	}
	wantDo(t, nil, strange(), strange(), api.Act{})
	wantDo(t, nil, api.Frame{}, api.Frame{}, api.Act{})
	wantDo(t, api.Prog{}, api.Frame{}, api.Frame{}, api.Act{})
	wantTrap(t, api.Prog{{}}, api.Frame{}, trapPlace)
}

// The chapter's example: the second of two joins of one spawn finds the slot empty.
func TestTwoJoins(t *testing.T) {
	p := parsed(t, "func 0 0 1", "spawn 1 0", "join 0", "join 0", "ret", "func 0 0 0", "push 1 0", "ret")
	f, ok := frame.New(p, 0, nil, 3)
	f, act := frame.Do(p, f)
	if !ok || act.Kind != actSpawn || act.Fn != 1 || len(act.Args) != 0 {
		t.Fatal(told(f), act)
	}
	f, _ = frame.Give(f, 0, api.Out{V: api.Value{Re: 1}})
	f, act = frame.Do(p, f)
	if act.Kind != actGo || len(f.Stack) != 1 || f.Slots[0] != (api.Slot{}) {
		t.Error(told(f), act)
	}
	wantTrap(t, p, f, trapSlot)
}
