package frame_test

import (
	"fmt"
	"math"
	"slices"
	"strings"
	"testing"
	"transhumance/api"
	"transhumance/code"
	"transhumance/frame"
)

// The states and the kinds of acts by the numbers that api gives them.
const (
	empty, busy, done    = 0, 1, 2
	ready, waits, ends   = 0, 1, 2
	actNone, actGo       = 0, 1
	actSpawn, actWait    = 2, 3
	actEnd               = 4
	trapZero, trapSlot   = 1, 2
	trapStack, trapPlace = 3, 4
)

// nobody is the Kid of a slot and the Up of a frame of which nothing is known.
var nobody = api.Ref{At: -1}

// told is all that is in a frame, as a text; an empty list and none are told alike.
func told(f api.Frame) string {
	return fmt.Sprintf("%+v", f)
}

func wantFrame(t *testing.T, what string, f, is api.Frame) {
	t.Helper()
	if told(f) != told(is) {
		t.Errorf("%s:\n%s, want\n%s", what, told(f), told(is))
	}
}

// parsed is the program with these lines.
func parsed(t *testing.T, lines ...string) api.Prog {
	t.Helper()
	p, at, e := code.Parse(strings.Join(lines, "\n") + "\n")
	if e != api.OK {
		t.Fatalf("line %d of %q: error %d", at, lines, e)
	}
	return p
}

// some are that many values that differ.
func some(many int) []api.Value {
	l := make([]api.Value, many)
	for i := range l {
		l[i] = api.Value{Re: i + 1, Im: 250 - i}
	}
	return l
}

// cloned is f in other memory.
func cloned(f api.Frame) api.Frame {
	f.Stack, f.Locals, f.Slots = slices.Clone(f.Stack), slices.Clone(f.Locals), slices.Clone(f.Slots)
	return f
}

// strange is a ready frame in the function 1 at place 2, in which no field but the State is 0.
func strange() api.Frame {
	return api.Frame{
		Fn: 1, Pc: 2,
		Stack:  some(5),
		Locals: []api.Value{{Re: 70, Im: 71}, {Re: 72, Im: 73}, {Re: 74, Im: 75}},
		Slots: []api.Slot{
			{},
			{State: busy, Kid: api.Ref{At: 30, Gen: 31}},
			{State: done, Kid: nobody, Out: api.Out{V: api.Value{Re: 32, Im: 33}}},
			{State: done, Kid: nobody, Out: api.Out{Trap: 99}},
		},
		Seed: 123456, Spawned: 5, Draws: 6, Wait: 3,
		Out: api.Out{Trap: 8, V: api.Value{Re: 9, Im: 10}},
		Up:  api.Ref{At: 11, Gen: 12}, UpSlot: 13,
	}
}

// wantNew: New makes this frame, or none if is is nil.
func wantNew(t *testing.T, p api.Prog, fn int, args []api.Value, s int, is *api.Frame) {
	t.Helper()
	what := fmt.Sprintf("New of function %d of %.300q with %v and the seed %d", fn, code.Text(p), args, s)
	f, ok := frame.New(p, fn, args, s)
	if ok != (is != nil) {
		t.Errorf("%s: %v", what, ok)
	}
	if is == nil {
		is = &api.Frame{}
	}
	wantFrame(t, what, f, *is)
}

// P9.1: the frame at its begin, for all numbers of arguments, locals and slots.
func TestNew(t *testing.T) {
	for arity := range 17 {
		for locals := range 17 {
			for slots := range 9 {
				f := api.Func{Arity: arity, Locals: locals, Slots: slots, Code: []api.Instr{{Op: 15}}}
				p := api.Prog{{Locals: 1, Slots: 2, Code: []api.Instr{{Op: 16, A: 16}}}, f, {Arity: 2, Locals: 2, Code: []api.Instr{{}}}}
				for many := range 18 {
					if many != arity || arity > locals {
						wantNew(t, p, 1, some(many), 5, nil)
						continue
					}
					all := append(some(many), make([]api.Value, locals-many)...)
					wantNew(t, p, 1, some(many), 5, &api.Frame{Fn: 1, Locals: all, Slots: make([]api.Slot, slots), Seed: 5, Up: nobody})
				}
			}
		}
	}
}

// P9.1: which functions and seeds there are.
func TestNewNumbers(t *testing.T) {
	p := parsed(t, "func 0 1 0", "rand", "ret", "func 1 1 1", "rand", "ret", "func 0 0 2", "trap 16")
	for fn, is := range []api.Frame{
		{Fn: 0, Locals: make([]api.Value, 1), Up: nobody},
		{Fn: 1, Locals: some(1), Slots: make([]api.Slot, 1), Up: nobody},
		{Fn: 2, Slots: make([]api.Slot, 2), Up: nobody},
	} {
		for _, s := range []int{0, 1, 2, 250, 251, 1 << 31, 1<<31 - 1, 1<<32 - 2, 1<<32 - 1} {
			is.Seed = s
			wantNew(t, p, fn, some(p[fn].Arity), s, &is)
		}
		for _, s := range []int{-1, -2, -1 << 32, 1 << 32, 1<<32 + 1, 1 << 33, 1 << 48, math.MinInt, math.MinInt + 1, math.MaxInt} {
			wantNew(t, p, fn, some(p[fn].Arity), s, nil)
		}
	}
	for _, fn := range []int{-1, -2, -3, 3, 4, 15, 16, 256, 1 << 32, 1<<32 + 1, -1 << 32, math.MinInt, math.MinInt + 1, math.MaxInt} {
		wantNew(t, p, fn, nil, 0, nil)
		wantNew(t, p, fn, some(1), 0, nil)
	}
}

// P9.1: which arguments are values, wherever they stand.
func TestNewArguments(t *testing.T) {
	for many := 1; many <= 16; many++ {
		p := api.Prog{{Arity: many, Locals: many, Code: []api.Instr{{Op: 15}}}}
		for at := range many {
			for _, n := range []int{0, 1, 249, 250} {
				for _, v := range []api.Value{{Re: n}, {Im: n}, {Re: n, Im: 250 - n}} {
					args := some(many)
					args[at] = v
					wantNew(t, p, 0, args, 1, &api.Frame{Locals: slices.Clone(args), Seed: 1, Up: nobody})
				}
			}
			for _, n := range []int{-1, -250, -251, 251, 252, 502, 1 << 32, math.MinInt, math.MaxInt} {
				for _, v := range []api.Value{{Re: n}, {Im: n}, {Re: n, Im: n}, {Re: 1, Im: n}, {Re: n, Im: 1}} {
					args := some(many)
					args[at] = v
					wantNew(t, p, 0, args, 1, nil)
				}
			}
		}
	}
}

// P9.1: of a program that is not valid there is no frame; one that is not safe has some.
func TestNewPrograms(t *testing.T) {
	ret := []api.Instr{{Op: 15}}
	good := api.Prog{{Code: ret}}
	wantNew(t, good, 0, nil, 0, &api.Frame{Up: nobody})
	for _, f := range []api.Func{
		{}, {Code: []api.Instr{}}, {Code: make([]api.Instr, 201)}, {Code: []api.Instr{{Op: 17}}}, {Code: []api.Instr{{Op: -1}}},
		{Locals: 17, Code: ret}, {Slots: 9, Code: ret}, {Arity: 17, Locals: 17, Code: ret}, {Arity: -1, Code: ret}, {Locals: -1, Code: ret}, {Slots: -1, Code: ret},
		{Locals: math.MaxInt, Code: ret}, {Slots: math.MaxInt, Code: ret}, {Locals: math.MinInt, Code: ret}, {Slots: math.MinInt, Code: ret},
		{Code: []api.Instr{{Op: 15, A: 1}}}, {Code: []api.Instr{{Op: 16, A: 15}}}, {Code: []api.Instr{{Op: 15}, {A: 251}}},
	} {
		wantNew(t, api.Prog{f}, 0, make([]api.Value, min(20, max(0, f.Arity))), 0, nil)
		for fn := range 2 {
			wantNew(t, api.Prog{{Code: ret}, f}, fn, nil, 0, nil)
		}
	}
	for _, p := range []api.Prog{nil, {}, make(api.Prog, 1), make(api.Prog, 17), slices.Repeat(good, 17), slices.Repeat(good, 1000)} {
		for fn := -1; fn < 3; fn++ {
			wantNew(t, p, fn, nil, 0, nil)
		}
	}
	for fn, p := range slices.Repeat([]api.Prog{slices.Repeat(good, 16)}, 16) {
		wantNew(t, p, fn, nil, 0, &api.Frame{Fn: fn, Up: nobody})
	}
	for _, l := range []string{"add", "load 0", "join 7", "spawn 15 7", "jump 199", "zero 5", "store 15"} { // not safe, but valid
		wantNew(t, parsed(t, "func 0 0 0", l), 0, nil, 7, &api.Frame{Seed: 7, Up: nobody})
	}
	p := parsed(t, "func 0 0 0", "ret", "func 1 0 0", "ret", "func 0 0 0", "ret")
	wantNew(t, p, 0, nil, 0, &api.Frame{Up: nobody}) // another function's arguments are no matter
	wantNew(t, p, 1, some(1), 0, nil)
	wantNew(t, p, 1, nil, 0, nil)
	wantNew(t, p, 2, nil, 0, &api.Frame{Fn: 2, Up: nobody})
}

func wantGive(t *testing.T, f api.Frame, slot int, out api.Out, is api.Frame, isOK bool) {
	t.Helper()
	what := fmt.Sprintf("Give of %v into slot %d of %s", out, slot, told(f))
	g, ok := frame.Give(f, slot, out)
	if ok != isOK {
		t.Errorf("%s: %v", what, ok)
	}
	wantFrame(t, what, g, is)
}

// P9.3: an end is given to each slot, whatever the state of the slot and of the frame, and whatever the frame waits for.
func TestGive(t *testing.T) {
	odd := []int{-1, 0, 1, 2, 3, 4, math.MinInt, math.MaxInt}
	outs := []api.Out{{}, {V: api.Value{Re: 1, Im: 250}}, {Trap: 20}, {Trap: -5, V: api.Value{Re: -7, Im: math.MaxInt}}}
	for _, state := range odd {
		for _, wait := range []int{-1, 0, 1, 2, 3, math.MinInt, math.MaxInt} {
			for _, out := range outs {
				f := strange()
				f.State, f.Wait = state, wait
				is := cloned(f)
				is.Slots[1] = api.Slot{State: done, Kid: nobody, Out: out}
				if state == waits && wait == 1 {
					is.State, is.Wait = ready, 0
				}
				wantGive(t, f, 1, out, is, true)
				for _, slot := range []int{-1, 0, 2, 3, 4, 5, 1 << 32, 1<<32 + 1, math.MinInt, math.MinInt + 1, math.MaxInt} {
					wantGive(t, f, slot, out, f, false)
				}
			}
		}
	}
	for many := range 9 {
		for slot := range many {
			for _, s := range odd {
				f := strange()
				f.State, f.Wait, f.Slots = waits, slot, make([]api.Slot, many)
				f.Slots[slot] = api.Slot{State: s, Kid: api.Ref{At: 5, Gen: 6}, Out: api.Out{Trap: 7, V: api.Value{Re: 8}}}
				is := cloned(f)
				if s == busy {
					is.State, is.Wait, is.Slots[slot] = ready, 0, api.Slot{State: done, Kid: nobody, Out: outs[1]}
				}
				wantGive(t, f, slot, outs[1], is, s == busy)
			}
		}
		for _, slot := range []int{-1, many, many + 1, 8} {
			f := strange()
			f.State, f.Wait, f.Slots = waits, slot, slices.Repeat([]api.Slot{{State: busy}}, many)
			if slot >= many || slot < 0 {
				wantGive(t, f, slot, outs[1], f, false)
			}
		}
	}
	wantGive(t, api.Frame{}, 0, api.Out{}, api.Frame{}, false)
}

// P9.3: what is given to one slot leaves the others, and can be given once.
func TestGiveOnce(t *testing.T) {
	f := api.Frame{State: waits, Wait: 2, Slots: slices.Repeat([]api.Slot{{State: busy, Kid: api.Ref{At: 4, Gen: 4}}}, 8)}
	for i, slot := range []int{3, 0, 7, 2, 1, 6, 5, 4} {
		out := api.Out{V: api.Value{Re: slot, Im: 1}}
		is := cloned(f)
		is.Slots[slot] = api.Slot{State: done, Kid: nobody, Out: out}
		if i >= 3 {
			is.State, is.Wait = ready, 0
		}
		wantGive(t, f, slot, out, is, true)
		wantGive(t, is, slot, api.Out{Trap: 1}, is, false)
		f = is
	}
}

func wantFinal(t *testing.T, f api.Frame, is api.Out, isOK bool) {
	t.Helper()
	if out, ok := frame.Final(f); out != is || ok != isOK {
		t.Errorf("Final of %s: %v, %v, want %v, %v", told(f), out, ok, is, isOK)
	}
}

// P9.3: how a frame ends, with slots that are written out.
func TestFinal(t *testing.T) {
	value := api.Out{V: api.Value{Re: 3, Im: 4}}
	trap := api.Out{Trap: 50, V: api.Value{Re: 5, Im: 6}}
	none, under := api.Slot{}, api.Slot{State: busy, Kid: api.Ref{At: 3, Gen: 1}}
	well := api.Slot{State: done, Kid: nobody, Out: api.Out{V: api.Value{Re: 7, Im: 8}}}
	ill := api.Slot{State: done, Kid: nobody, Out: api.Out{Trap: 60, V: api.Value{Re: 9, Im: 9}}}
	worse := api.Slot{State: done, Kid: nobody, Out: api.Out{Trap: -1, V: api.Value{Re: 9, Im: 9}}}
	for _, c := range []struct {
		slots []api.Slot
		trap  int  // of the children, if the frame itself has none
		ok    bool // whether it ends
	}{
		{nil, 0, true},
		{[]api.Slot{}, 0, true},
		{[]api.Slot{none}, 0, true},
		{[]api.Slot{well}, 0, true},
		{[]api.Slot{ill}, 60, true},
		{[]api.Slot{worse}, -1, true},
		{[]api.Slot{under}, 0, false},
		{[]api.Slot{ill, worse}, 60, true},
		{[]api.Slot{worse, ill}, -1, true},
		{[]api.Slot{none, well, none, ill, none, worse}, 60, true},
		{[]api.Slot{well, worse, well, ill, ill, none, none, ill}, -1, true},
		{[]api.Slot{ill, worse, under}, 0, false},
		{[]api.Slot{under, ill, worse}, 0, false},
		{[]api.Slot{none, none, none, none, none, none, none, under}, 0, false},
		{[]api.Slot{none, none, none, none, none, none, none, ill}, 60, true},
		{[]api.Slot{{State: empty, Out: ill.Out}}, 0, true}, // only what is done counts
		{[]api.Slot{{State: 3, Out: ill.Out}, {State: -1, Out: ill.Out}, {State: math.MinInt, Out: ill.Out}}, 0, true},
		{[]api.Slot{{State: math.MaxInt, Out: ill.Out}, worse}, -1, true},
		{slices.Repeat([]api.Slot{well}, 1<<16), 0, true},
		{append(slices.Repeat([]api.Slot{well}, 1<<16), ill), 60, true},
		{append(slices.Repeat([]api.Slot{ill}, 1<<16), under), 0, false},
	} {
		f := strange()
		f.Slots = c.slots
		for _, state := range []int{-1, ready, waits, 3, 4, math.MinInt, math.MaxInt} {
			f.State = state
			wantFinal(t, f, api.Out{}, false)
		}
		f.State = ends
		is := api.Out{Trap: c.trap}
		if c.trap == 0 {
			is = value
		}
		for _, own := range []api.Out{value, trap, {Trap: -1}, {Trap: math.MinInt}} {
			f.Out = own
			switch {
			case !c.ok:
				wantFinal(t, f, api.Out{}, false)
			case own.Trap != 0:
				wantFinal(t, f, own, true)
			default:
				wantFinal(t, f, is, true)
			}
		}
	}
}

// P9.3: all states of three slots.
func TestFinalAll(t *testing.T) {
	kinds := []api.Slot{{}, {State: busy}, {State: done, Out: api.Out{V: api.Value{Re: 1}}}, {State: done, Out: api.Out{Trap: 30}}, {State: busy, Out: api.Out{Trap: 40}}}
	for n := range 125 {
		f := api.Frame{State: ends, Out: api.Out{V: api.Value{Re: 9}}}
		is, ok := f.Out, true
		for at, k := range []int{n % 5, n / 5 % 5, n / 25} {
			s := kinds[k]
			ok = ok && k != 1 && k != 4
			if k == 3 {
				s.Out.Trap += at
				if is.Trap == 0 {
					is = api.Out{Trap: 30 + at}
				}
			}
			f.Slots = append(f.Slots, s)
		}
		if !ok {
			is = api.Out{}
		}
		wantFinal(t, f, is, ok)
	}
}

func wantSame(t *testing.T, a, b api.Frame, is bool) {
	t.Helper()
	if frame.Same(a, b) != is || frame.Same(b, a) != is {
		t.Errorf("Same of %s\nand %s: want %v", told(a), told(b), is)
	}
}

// P9.3: a change of any one field is told, each part of a list included; nil and empty lists are the same (R5).
func TestSame(t *testing.T) {
	change := []func(f *api.Frame){
		func(f *api.Frame) { f.Fn++ },
		func(f *api.Frame) { f.Pc++ },
		func(f *api.Frame) { f.Seed++ },
		func(f *api.Frame) { f.Spawned++ },
		func(f *api.Frame) { f.Draws++ },
		func(f *api.Frame) { f.State++ },
		func(f *api.Frame) { f.Wait++ },
		func(f *api.Frame) { f.Out.Trap++ },
		func(f *api.Frame) { f.Out.V.Re++ },
		func(f *api.Frame) { f.Out.V.Im++ },
		func(f *api.Frame) { f.Up.At++ },
		func(f *api.Frame) { f.Up.Gen++ },
		func(f *api.Frame) { f.UpSlot++ },
		func(f *api.Frame) { f.Fn += 1 << 32 },
		func(f *api.Frame) { f.Fn, f.Pc = f.Pc, f.Fn },
		func(f *api.Frame) { f.Stack = append(f.Stack, api.Value{}) },
		func(f *api.Frame) { f.Locals = append(f.Locals, api.Value{}) },
		func(f *api.Frame) { f.Slots = append(f.Slots, api.Slot{}) },
		func(f *api.Frame) { f.Stack = f.Stack[:4] },
		func(f *api.Frame) { f.Locals = f.Locals[:2] },
		func(f *api.Frame) { f.Slots = f.Slots[:3] },
		func(f *api.Frame) { f.Stack = f.Stack[1:] },
		func(f *api.Frame) { f.Stack = nil },
		func(f *api.Frame) { f.Locals = nil },
		func(f *api.Frame) { f.Slots = nil },
		func(f *api.Frame) { f.Stack, f.Locals = f.Locals, f.Stack },
		func(f *api.Frame) { slices.Reverse(f.Stack) },
		func(f *api.Frame) { slices.Reverse(f.Slots) },
	}
	for at := range strange().Stack {
		change = append(change, func(f *api.Frame) { f.Stack[at].Re++ }, func(f *api.Frame) { f.Stack[at].Im-- })
	}
	for at := range strange().Locals {
		change = append(change, func(f *api.Frame) { f.Locals[at].Re += 251 }, func(f *api.Frame) { f.Locals[at].Im-- })
	}
	for at := range strange().Slots {
		change = append(change, func(f *api.Frame) { f.Slots[at].State-- }, func(f *api.Frame) { f.Slots[at].Kid.At++ }, func(f *api.Frame) { f.Slots[at].Kid.Gen++ })
		change = append(change, func(f *api.Frame) { f.Slots[at].Out.Trap++ }, func(f *api.Frame) { f.Slots[at].Out.V.Re++ }, func(f *api.Frame) { f.Slots[at].Out.V.Im++ })
	}
	for _, c := range change {
		f := strange()
		c(&f)
		wantSame(t, f, strange(), false)
		g := cloned(f)
		wantSame(t, f, g, true)
	}
	wantSame(t, strange(), strange(), true)
	wantSame(t, api.Frame{}, api.Frame{}, true)
	wantSame(t, api.Frame{}, api.Frame{Stack: []api.Value{}}, true)
	wantSame(t, api.Frame{Slots: []api.Slot{}}, api.Frame{Locals: []api.Value{}}, true)
	wantSame(t, api.Frame{Stack: make([]api.Value, 0, 9)}, api.Frame{Stack: nil, Locals: []api.Value{}, Slots: []api.Slot{}}, true)
	wantSame(t, api.Frame{Stack: make([]api.Value, 1)}, api.Frame{}, false)
	wantSame(t, api.Frame{Slots: make([]api.Slot, 1)}, api.Frame{}, false)
	wantSame(t, api.Frame{Locals: make([]api.Value, 1)}, api.Frame{}, false)
}
