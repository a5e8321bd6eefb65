package frame

import (
	"slices"
	"transhumance/api"
	"transhumance/gauss"
	"transhumance/op"
	"transhumance/seed"
)

// noTrap is the code with which an instruction goes well.
const noTrap = 0

// Do executes the next instruction of f, and returns what becomes of f and what the instruction asks for; nothing is done if f is not ready.
func Do(p api.Prog, f api.Frame) (api.Frame, api.Act) {
	r := runner{Frame: clone(f), prog: p}
	if r.State != api.FrameReady || !has(p, r.Fn) {
		return r.Frame, api.Act{}
	}
	act := r.do()
	return r.Frame, act
}

// runner is a frame with the program that it is of; its memory is its own.
type runner struct {
	api.Frame
	prog api.Prog
}

func (r *runner) do() api.Act {
	var act api.Act
	x, trap := r.fetch()
	if trap != noTrap {
		goto trapped
	}
	if trap = r.depth(x); trap != noTrap {
		goto trapped
	}
	act, trap = r.execute(x)
	if trap != noTrap {
		goto trapped
	}
	return act
trapped:
	return r.end(api.Out{Trap: trap})
}

// fetch returns the instruction at Pc, or the code of a trap if it cannot be executed wherever it stood.
func (r *runner) fetch() (api.Instr, int) {
	places := r.prog[r.Fn].Code
	if !has(places, r.Pc) {
		return api.Instr{}, api.TrapPlace
	}
	x := places[r.Pc]
	if !op.May(x) || !r.knows(x) {
		return api.Instr{}, api.TrapPlace
	}
	return x, noTrap
}

// knows reports whether there is what the fields of x name. A place to continue at is not asked for: it traps when it comes to be executed.
func (r *runner) knows(x api.Instr) bool {
	switch x.Op {
	case api.OpLoad, api.OpStore:
		return has(r.Locals, x.A)
	case api.OpSpawn:
		return has(r.prog, x.A) && has(r.Slots, x.B)
	case api.OpJoin:
		return has(r.Slots, x.A)
	}
	return true
}

// depth returns the code of a trap if the stack has too few values for x, or too many.
func (r *runner) depth(x api.Instr) int {
	pops, pushes := op.Stack(x.Op)
	if x.Op == api.OpSpawn {
		pops = r.prog[x.A].Arity
	}
	if pops < 0 || pops > len(r.Stack) {
		return api.TrapStack
	}
	if pushes > 0 && len(r.Stack)-pops+pushes > api.MaxStack {
		return api.TrapStack
	}
	return noTrap
}

// execute executes x, which names only what there is and for which the stack is deep enough, or returns the code of a trap.
func (r *runner) execute(x api.Instr) (api.Act, int) {
	switch x.Op {
	case api.OpTrap:
		return api.Act{}, x.A
	case api.OpRet:
		return r.end(api.Out{V: r.pop()}), noTrap
	case api.OpSpawn:
		return r.spawn(x.A, x.B)
	case api.OpJoin:
		return r.join(x.A)
	case api.OpAdd, api.OpSub, api.OpMul, api.OpDiv:
		return r.compute(x.Op)
	case api.OpJump:
		return r.goTo(x.A), noTrap
	case api.OpZero:
		if v := r.pop(); gauss.Of(v.Re, v.Im) == (api.Value{}) {
			return r.goTo(x.A), noTrap
		}
	default:
		r.move(x)
	}
	return r.goTo(r.Pc + 1), noTrap
}

// spawn asks for a child that runs the function fn, whose end is to be laid into that slot.
func (r *runner) spawn(fn, slot int) (api.Act, int) {
	if r.Slots[slot].State != api.SlotEmpty {
		return api.Act{}, api.TrapSlot
	}
	r.Slots[slot].State, r.Slots[slot].Kid = api.SlotBusy, nobody
	act := api.Act{Kind: api.ActSpawn, Fn: fn, Slot: slot, Seed: seed.Child(r.Seed, r.Spawned), Args: r.take(r.prog[fn].Arity)}
	r.Spawned++
	r.Pc++
	return act, noTrap
}

// join takes the end of that slot's child, or waits for it.
func (r *runner) join(slot int) (api.Act, int) {
	s := r.Slots[slot]
	switch s.State {
	case api.SlotBusy:
		r.State, r.Wait = api.FrameWaits, slot
		return api.Act{Kind: api.ActWait}, noTrap
	case api.SlotDone:
		r.Slots[slot] = api.Slot{}
	default:
		return api.Act{}, api.TrapSlot
	}
	if s.Out.Trap != 0 {
		return api.Act{}, s.Out.Trap
	}
	r.push(s.Out.V)
	return r.goTo(r.Pc + 1), noTrap
}

// compute replaces the two upper values by what the operation n makes of them; both stay if it makes nothing.
func (r *runner) compute(n int) (api.Act, int) {
	upper := len(r.Stack) - 1
	v, ok := combine(n, r.Stack[upper-1], r.Stack[upper])
	if !ok {
		return api.Act{}, api.TrapZero
	}
	r.take(2)
	r.push(v)
	return r.goTo(r.Pc + 1), noTrap
}

// combine returns what one of the four operations on two values makes of a and b; false if it is a division by 0.
func combine(n int, a, b api.Value) (api.Value, bool) {
	switch n {
	case api.OpAdd:
		return gauss.Add(a, b), true
	case api.OpSub:
		return gauss.Sub(a, b), true
	case api.OpMul:
		return gauss.Mul(a, b), true
	}
	return gauss.Div(a, b)
}

// move executes the instructions that only bring values onto the stack, change the top one, or take it away.
func (r *runner) move(x api.Instr) {
	switch x.Op {
	case api.OpPush:
		r.push(gauss.Of(x.A, x.B))
	case api.OpLoad:
		r.push(r.Locals[x.A])
	case api.OpStore:
		r.Locals[x.A] = r.pop()
	case api.OpConj:
		r.push(gauss.Conj(r.pop()))
	case api.OpDup:
		v := r.pop()
		r.push(v, v)
	case api.OpDrop:
		r.pop()
	case api.OpRand:
		r.push(seed.Draw(r.Seed, r.Draws))
		r.Draws++
	}
}

func (r *runner) goTo(place int) api.Act {
	r.Pc = place
	return api.Act{Kind: api.ActGo}
}

func (r *runner) end(out api.Out) api.Act {
	r.State, r.Out = api.FrameEnds, out
	return api.Act{Kind: api.ActEnd}
}

func (r *runner) push(values ...api.Value) {
	r.Stack = append(r.Stack, values...)
}

func (r *runner) pop() api.Value {
	return r.take(1)[0]
}

// take pops that many values, in memory of their own; the topmost one is the last.
func (r *runner) take(many int) []api.Value {
	rest := len(r.Stack) - many
	values := slices.Clone(r.Stack[rest:])
	r.Stack = r.Stack[:rest]
	return values
}
