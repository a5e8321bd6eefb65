package frame_test

import (
	"fmt"
	"math"
	"slices"
	"strings"
	"testing"
	"transhumance/api"
	"transhumance/check"
	"transhumance/code"
	"transhumance/frame"
	"transhumance/gauss"
	"transhumance/op"
	"transhumance/seed"
)

// effects are how many values each operation pops and pushes, as chapter 6 tells it.
var effects = [17][2]int{{0, 1}, {0, 1}, {1, 0}, {2, 1}, {2, 1}, {2, 1}, {2, 1}, {1, 1}, {1, 2}, {1, 0}, {0, 0}, {1, 0}, {0, 1}, {0, 0}, {0, 1}, {1, 0}, {0, 0}}

// lacks: whether a field of x names what there is not.
func lacks(p api.Prog, f api.Frame, x api.Instr) bool {
	local, slot, fn := math.MinInt, math.MinInt, math.MinInt
	switch op.Name(x.Op) {
	case "load", "store":
		local = x.A
	case "join":
		slot = x.A
	case "spawn":
		fn, slot = x.A, x.B
	}
	return local >= len(f.Locals) || slot >= len(f.Slots) || fn >= len(p)
}

// executed is P9.2, in its words' order.
func executed(p api.Prog, f api.Frame) (api.Frame, api.Act) {
	f = cloned(f)
	if f.State != ready || f.Fn < 0 || f.Fn >= len(p) {
		return f, api.Act{}
	}
	end := api.Act{Kind: actEnd}
	l := p[f.Fn].Code
	if f.Pc < 0 || f.Pc >= len(l) || !op.May(l[f.Pc]) || lacks(p, f, l[f.Pc]) {
		return trapped(f, trapPlace), end
	}
	x := l[f.Pc]
	pops, pushes := effects[x.Op][0], effects[x.Op][1]
	if x.Op == 13 {
		pops = p[x.A].Arity
	}
	if pops < 0 || pops > len(f.Stack) || pushes != 0 && len(f.Stack)-pops+pushes > 16 {
		return trapped(f, trapStack), end
	}
	top := slices.Clone(f.Stack[len(f.Stack)-pops:])
	switch op.Name(x.Op) {
	case "push":
		return passed(f, pops, api.Value{Re: x.A, Im: x.B}), api.Act{Kind: actGo}
	case "load":
		return passed(f, pops, f.Locals[x.A]), api.Act{Kind: actGo}
	case "store":
		g := passed(f, pops)
		g.Locals[x.A] = top[0]
		return g, api.Act{Kind: actGo}
	case "add":
		return passed(f, pops, gauss.Add(top[0], top[1])), api.Act{Kind: actGo}
	case "sub":
		return passed(f, pops, gauss.Sub(top[0], top[1])), api.Act{Kind: actGo}
	case "mul":
		return passed(f, pops, gauss.Mul(top[0], top[1])), api.Act{Kind: actGo}
	case "div":
		if v, ok := gauss.Div(top[0], top[1]); ok {
			return passed(f, pops, v), api.Act{Kind: actGo}
		}
		return trapped(f, trapZero), end
	case "conj":
		return passed(f, pops, gauss.Conj(top[0])), api.Act{Kind: actGo}
	case "dup":
		return passed(f, 0, top[0]), api.Act{Kind: actGo}
	case "drop":
		return passed(f, pops), api.Act{Kind: actGo}
	case "jump":
		g := cloned(f)
		g.Pc = x.A
		return g, api.Act{Kind: actGo}
	case "zero":
		g := passed(f, pops)
		if top[0].Re%251 == 0 && top[0].Im%251 == 0 {
			g.Pc = x.A
		}
		return g, api.Act{Kind: actGo}
	case "rand":
		g := passed(f, pops, seed.Draw(f.Seed, f.Draws))
		g.Draws++
		return g, api.Act{Kind: actGo}
	case "spawn":
		if f.Slots[x.B].State != empty {
			return trapped(f, trapSlot), end
		}
		g := passed(f, pops)
		g.Spawned++
		g.Slots[x.B].State, g.Slots[x.B].Kid = busy, nobody
		return g, api.Act{Kind: actSpawn, Fn: x.A, Slot: x.B, Seed: seed.Child(f.Seed, f.Spawned), Args: top}
	case "join":
		return joined(f, x.A)
	case "ret":
		g := passed(f, pops)
		g.Pc, g.State, g.Out = f.Pc, ends, api.Out{V: top[0]}
		return g, end
	}
	return trapped(f, x.A), end
}

// joined is what P9.2 says of join, when the stack has room.
func joined(f api.Frame, slot int) (api.Frame, api.Act) {
	g := cloned(f)
	s := f.Slots[slot]
	if s.State == busy {
		g.State, g.Wait = waits, slot
		return g, api.Act{Kind: actWait}
	}
	if s.State != done {
		return trapped(f, trapSlot), api.Act{Kind: actEnd}
	}
	g.Slots[slot] = api.Slot{}
	if s.Out.Trap != 0 {
		return trapped(g, s.Out.Trap), api.Act{Kind: actEnd}
	}
	return passed(g, 0, s.Out.V), api.Act{Kind: actGo}
}

// dice draws numbers, always the same ones.
type dice uint64

// below draws a number from 0 to many - 1.
func (d *dice) below(many int) int {
	*d = *d*6364136223846793005 + 1442695040888963407
	return int(uint64(*d)>>33) % many
}

// near draws a number from 0 to many - 1, or now and then one that is none of these.
func (d *dice) near(many int) int {
	switch d.below(40) {
	case 0:
		return many + d.below(3)
	case 1:
		return -1 - d.below(3)
	case 2:
		return odd[d.below(len(odd))]
	}
	return d.below(max(many, 1))
}

// value draws a value; few have a part that is not reduced.
func (d *dice) value() api.Value {
	if d.below(5) == 0 {
		return api.Value{}
	}
	return api.Value{Re: d.near(251), Im: d.near(251)}
}

func (d *dice) values(many int) []api.Value {
	var l []api.Value
	for range many {
		l = append(l, d.value())
	}
	return l
}

func (d *dice) out() api.Out {
	if d.below(3) == 0 {
		return api.Out{Trap: d.near(256), V: d.value()}
	}
	return api.Out{V: d.value()}
}

func (d *dice) ref() api.Ref {
	return api.Ref{At: d.near(9), Gen: d.near(9)}
}

// frame draws a frame that is ready as a rule, and whose fields may be anything.
func (d *dice) frame(p api.Prog) api.Frame {
	f := api.Frame{Fn: d.near(len(p)), Stack: d.values(d.below(7)), Locals: d.values(d.below(17))}
	if f.Fn >= 0 && f.Fn < len(p) {
		f.Pc = d.near(len(p[f.Fn].Code))
	}
	if d.below(3) == 0 {
		f.Stack = d.values(14 + d.below(5))
	}
	for range d.below(9) {
		f.Slots = append(f.Slots, api.Slot{State: d.near(3), Kid: d.ref(), Out: d.out()})
	}
	f.Seed, f.Spawned, f.Draws, f.Wait, f.UpSlot = d.near(1<<32), d.near(5), d.near(5), d.near(5), d.near(5)
	f.Out, f.Up = d.out(), d.ref()
	if d.below(10) == 0 {
		f.State = d.near(3)
	}
	return f
}

// anything draws a program whose numbers and instructions need not be valid.
func (d *dice) anything() api.Prog {
	p := make(api.Prog, d.below(9))
	for i := range p {
		p[i] = api.Func{Arity: d.near(4), Locals: d.near(5), Slots: d.near(5)}
		for range d.below(9) {
			x := d.instr()
			switch d.below(60) {
			case 0:
				x.Op = d.near(17)
			case 1:
				x.A = d.near(18)
			case 2:
				x.B = d.near(10)
			}
			p[i].Code = append(p[i].Code, x)
		}
	}
	return p
}

// instr draws a valid instruction, most often with small fields.
func (d *dice) instr() api.Instr {
	x := api.Instr{Op: d.below(17)}
	if d.below(3) == 0 {
		x.Op = 13 + d.below(2)
	}
	switch x.Op {
	case 0:
		x.A, x.B = d.below(251), d.below(251)
	case 1, 2:
		x.A = d.below(1 + d.below(16))
	case 10, 11:
		x.A = d.below(6)
	case 13:
		x.A, x.B = d.below(1+d.below(6)), d.below(1+d.below(8))
	case 14:
		x.A = d.below(1 + d.below(8))
	case 16:
		x.A = 16 + d.below(240)
	}
	return x
}

// P9.2: frames and programs that are drawn, step by step for as long as they go on.
func TestDrawn(t *testing.T) {
	d := dice(1)
	kinds, traps := map[int]int{}, map[int]int{}
	for range 30000 {
		p := d.anything()
		f := d.frame(p)
		for range 6 {
			is, act := executed(p, f)
			wantDo(t, p, f, is, act)
			kinds[act.Kind]++
			if act.Kind == actEnd {
				traps[is.Out.Trap]++
			}
			if f = is; act.Kind == actNone || act.Kind == actEnd {
				break
			}
		}
		if t.Failed() {
			return
		}
	}
	for k := range 5 {
		if kinds[k] < 500 || traps[k] < 100 {
			t.Errorf("act %d: %d times, trap %d: %d times", k, kinds[k], k, traps[k])
		}
	}
}

// run is a program that is executed as a whole, child by child.
type run struct {
	*testing.T
	*dice
	api.Prog
	depths [][]int
	fuel   int
}

// task executes a task and the tasks that it spawns, each at a time that is drawn; false if there is no fuel left.
func (r *run) task(fn int, args []api.Value, s int) (api.Out, bool) {
	r.Helper()
	f, ok := frame.New(r.Prog, fn, args, s)
	if !ok {
		r.Fatalf("no frame of function %d of %.300q with %v, %d", fn, code.Text(r.Prog), args, s)
	}
	kids := map[int]api.Act{}
	for f.State != ends || len(kids) > 0 {
		if f.State == waits || f.State == ends || len(kids) > 0 && r.below(2) == 0 {
			slot := f.Wait
			for f.State != waits {
				if slot = r.below(8); kids[slot].Kind != actNone {
					break
				}
			}
			out, ok := r.task(kids[slot].Fn, kids[slot].Args, kids[slot].Seed)
			if !ok {
				return out, false
			}
			delete(kids, slot)
			if f, ok = frame.Give(f, slot, out); !ok {
				r.Fatalf("slot %d of %s takes nothing", slot, told(f))
			}
			continue
		}
		if r.fuel--; r.fuel < 0 {
			return api.Out{}, false
		}
		f = r.step(f, kids)
	}
	out, ok := frame.Final(f)
	if !ok {
		r.Fatalf("no end of %s", told(f))
	}
	return out, true
}

// step executes one instruction; the stack has the depth of its place (P8.2), and no trap is of the stack or of a place (P9.4).
func (r *run) step(f api.Frame, kids map[int]api.Act) api.Frame {
	r.Helper()
	if depths := r.depths[f.Fn]; f.Pc >= len(depths) || len(f.Stack) != depths[f.Pc] {
		r.Fatalf("depths %v, but %s", depths, told(f))
	}
	g, act := frame.Do(r.Prog, f)
	if act.Kind == actNone || g.Out.Trap == trapStack || g.Out.Trap == trapPlace {
		r.Fatalf("%s of %.300q makes %s", told(f), code.Text(r.Prog), told(g))
	}
	if act.Kind == actSpawn {
		kids[act.Slot] = act
	}
	return g
}

// wantRun: how p ends, with that many instructions at most; false if it does not.
func wantRun(t *testing.T, d *dice, p api.Prog, args []api.Value, s, fuel int) (api.Out, bool) {
	t.Helper()
	r := run{T: t, dice: d, Prog: p, fuel: fuel}
	for fn := range p {
		r.depths = append(r.depths, check.Depths(p, fn))
	}
	return r.task(0, args, s)
}

// P9.4: programs that are written out have the results that they compute, whenever their tasks are executed.
func TestRuns(t *testing.T) {
	fibonacci := parsed(t, "func 1 1 2",
		"load 0", "zero 16", "load 0", "push 1 0", "sub", "zero 18",
		"load 0", "push 1 0", "sub", "spawn 0 0",
		"load 0", "push 2 0", "sub", "spawn 0 1", "join 0", "jump 20",
		"push 0 0", "ret", "push 1 0", "ret",
		"join 1", "add", "ret")
	d := dice(5)
	for n, is := range []int{0, 1, 1, 2, 3, 5, 8, 13, 21, 34, 55, 89, 144} {
		if out, ok := wantRun(t, &d, fibonacci, []api.Value{{Re: n}}, 9, 100000); !ok || out != (api.Out{V: api.Value{Re: is}}) {
			t.Errorf("Fibonacci %d: %v, %v", n, out, ok)
		}
	}
	for _, c := range []struct {
		is    api.Out
		lines []string
	}{
		{api.Out{V: api.Value{Re: 1, Im: 2}}, []string{"func 0 0 0", "push 1 2", "ret"}},
		{api.Out{Trap: 200}, []string{"func 0 0 0", "trap 200"}},
		{api.Out{Trap: trapZero}, []string{"func 0 0 0", "push 1 2", "push 0 0", "div", "ret"}},
		{api.Out{Trap: trapSlot}, []string{"func 0 0 1", "spawn 1 0", "spawn 1 0", "trap 50", "func 0 0 0", "push 1 0", "ret"}},
		{api.Out{Trap: trapSlot}, []string{"func 0 0 1", "join 0", "ret"}},
		{api.Out{Trap: 40}, []string{"func 0 0 2", "spawn 1 1", "push 1 1", "ret", "func 0 0 0", "trap 40"}},                                                                    // a child that nobody joins
		{api.Out{Trap: 41}, []string{"func 0 0 2", "spawn 1 1", "spawn 2 0", "push 1 1", "ret", "func 0 0 0", "trap 40", "func 0 0 0", "trap 41"}},                              // two of them
		{api.Out{Trap: 42}, []string{"func 0 0 2", "spawn 1 1", "spawn 2 0", "trap 42", "func 0 0 0", "trap 40", "func 0 0 0", "trap 41"}},                                      // and a trap of its own
		{api.Out{Trap: 40}, []string{"func 0 0 2", "spawn 1 1", "spawn 2 0", "join 1", "ret", "func 0 0 0", "trap 40", "func 0 0 0", "trap 41"}},                                // one that is joined
		{api.Out{V: api.Value{Re: 249, Im: 1}}, []string{"func 0 0 1", "push 3 0", "push 5 250", "spawn 1 0", "join 0", "ret", "func 2 2 0", "load 0", "load 1", "sub", "ret"}}, // 3 - (5 - i)
	} {
		for s := range 20 {
			if out, ok := wantRun(t, &d, parsed(t, c.lines...), nil, s, 1000); !ok || out != c.is {
				t.Errorf("%q: %v, %v, want %v", c.lines, out, ok, c.is)
			}
		}
	}
}

// P9.4: safe programs that are drawn.
func TestSafe(t *testing.T) {
	d := dice(2)
	ended, traps := 0, map[int]int{}
	for range 3000 {
		p := d.prog()
		if _, _, e := check.Check(p); e != api.OK {
			t.Fatalf("%q is not safe: %d", code.Text(p), e)
		}
		var args []api.Value
		for range p[0].Arity {
			args = append(args, api.Value{Re: d.below(251), Im: d.below(251)})
		}
		out, ok := wantRun(t, &d, p, args, d.below(1<<32), 2000)
		if ok {
			ended++
			traps[out.Trap]++
		}
	}
	if ended < 1000 || traps[0] < 100 || traps[trapSlot] < 100 || traps[trapZero] < 5 {
		t.Errorf("%d ended: traps %v", ended, traps)
	}
}

// prog draws a program that is safe: each instruction finds what it needs.
func (d *dice) prog() api.Prog {
	p := make(api.Prog, 1+d.below(5))
	for i := range p {
		locals := d.below(5)
		p[i] = api.Func{Arity: d.below(1 + d.below(locals+1)), Locals: locals, Slots: d.below(5)}
	}
	for i := range p {
		d.fill(p, &p[i], 1+d.below(1+d.below(40)))
	}
	return p
}

// effect is what the instruction x of the program p pops and pushes.
func effect(p api.Prog, x api.Instr) (int, int) {
	if x.Op == 13 {
		return p[x.A].Arity, 0
	}
	return effects[x.Op][0], effects[x.Op][1]
}

// fill draws the instructions of a function of p, each with a depth that is right for it.
func (d *dice) fill(p api.Prog, f *api.Func, many int) {
	var depths []int
	depth := 0
	for at := range many {
		x := d.fitting(p, *f, depth, at == many-1)
		f.Code, depths = append(f.Code, x), append(depths, depth)
		pops, pushes := effect(p, x)
		if depth += pushes - pops; x.Op == 10 || x.Op > 14 { // what stands behind is reached from elsewhere, or not at all
			depth = d.below(4)
		}
	}
	for at, x := range f.Code {
		pops, _ := effect(p, x)
		for x.Op == 10 || x.Op == 11 {
			if to := d.below(many); depths[to] == depths[at]-pops {
				f.Code[at].A = to
				break
			}
		}
	}
}

// fitting draws an instruction that finds its values, locals, slots and functions; the last one of a function is followed by none.
func (d *dice) fitting(p api.Prog, f api.Func, depth int, last bool) api.Instr {
	for {
		x := d.instr()
		if lacks(p, api.Frame{Locals: make([]api.Value, f.Locals), Slots: make([]api.Slot, f.Slots)}, x) {
			continue
		}
		stops := x.Op == 10 || x.Op > 14
		if last && !stops || stops && !last && d.below(6) > 0 {
			continue
		}
		if pops, pushes := effect(p, x); depth >= pops && depth-pops+pushes <= 16 {
			return x
		}
	}
}

// roomy is f with memory behind its lists that a call must leave alone.
func roomy(f api.Frame) api.Frame {
	mark := api.Value{Re: -77, Im: 77}
	f.Stack = append(slices.Clone(f.Stack), mark, mark, mark)[:len(f.Stack)]
	f.Locals = append(slices.Clone(f.Locals), mark, mark)[:len(f.Locals)]
	f.Slots = append(slices.Clone(f.Slots), api.Slot{State: -77})[:len(f.Slots)]
	return f
}

// whole tells a frame with the memory behind its lists.
func whole(f api.Frame) string {
	return fmt.Sprint(f, f.Stack[:cap(f.Stack)], f.Locals[:cap(f.Locals)], f.Slots[:cap(f.Slots)])
}

// scribble writes into all the memory of a frame, that behind its lists included.
func scribble(f api.Frame) {
	clearAll := func(l []api.Value) {
		for i := range l[:cap(l)] {
			l[:cap(l)][i] = api.Value{Re: -99, Im: -99}
		}
	}
	clearAll(f.Stack)
	clearAll(f.Locals)
	for i := range f.Slots[:cap(f.Slots)] {
		f.Slots[:cap(f.Slots)][i] = api.Slot{State: -99}
	}
}

// R3, R4: no call changes what it is given, and no result shares memory with an argument or with another result.
func TestMemoryApart(t *testing.T) {
	d := dice(3)
	for range 6000 {
		p := d.anything()
		f := roomy(d.frame(p))
		slot, out := d.below(5), d.out()
		before, text := whole(f), fmt.Sprint(p)
		g, act := frame.Do(p, f)
		h, _ := frame.Do(p, f)
		i, _ := frame.Give(f, slot, out)
		frame.Final(f)
		frame.Same(f, g)
		if whole(f) != before || fmt.Sprint(p) != text {
			t.Fatalf("changed: %s, now %s", before, whole(f))
		}
		is, isAct := executed(p, f)
		args := fmt.Sprint(act.Args)
		scribble(g)
		scribble(i)
		if whole(f) != before || told(h) != told(is) || fmt.Sprint(act.Args) != args {
			t.Fatalf("shared by results: %s, %s, %v", told(h), told(is), act)
		}
		g, act = frame.Do(p, f)
		i, _ = frame.Give(f, slot, out)
		given := told(i)
		for at := range act.Args[:cap(act.Args)] {
			act.Args[:cap(act.Args)][at] = api.Value{Re: -98}
		}
		scribble(f)
		if told(g) != told(is) || told(i) != given || len(act.Args) != len(isAct.Args) {
			t.Fatalf("shared with the argument: %s, %s", told(g), told(is))
		}
	}
}

// R4: a frame and its arguments have memory of their own, as have two frames.
func TestNewApart(t *testing.T) {
	p := parsed(t, "func 3 5 4", "ret")
	mark := api.Value{Re: -77}
	args := append(some(3), mark, mark, mark)[:3]
	f, _ := frame.New(p, 0, args, 7)
	g, _ := frame.New(p, 0, args, 7)
	before := told(f)
	scribble(g)
	if told(f) != before || !slices.Equal(args[:6], append(some(3), mark, mark, mark)) {
		t.Errorf("%s, %v", told(f), args[:6])
	}
	args[0], args[2] = mark, mark
	if told(f) != before || !strings.Contains(before, "250") {
		t.Errorf("%s, want %s", told(f), before)
	}
}

// P9.2, P9.3: frames and programs of any bytes.
func FuzzFrames(f *testing.F) {
	f.Add(uint64(1), uint64(2), []byte{0, 1, 2, 12, 0, 0, 15, 0, 0})
	f.Add(uint64(3), uint64(4), []byte{13, 0, 0, 14, 0, 0, 13, 1, 1, 14, 1, 0})
	f.Add(uint64(5), uint64(6), []byte{8, 0, 0, 3, 0, 0, 6, 0, 0, 11, 2, 0, 10, 0, 0})
	f.Fuzz(func(t *testing.T, a, b uint64, bytes []byte) {
		d, e := dice(a), dice(b)
		p := d.anything()
		if len(p) > 0 {
			fn := &p[e.below(len(p))]
			for i := 0; i+2 < len(bytes); i += 3 {
				fn.Code = append(fn.Code, api.Instr{Op: int(int8(bytes[i])), A: int(bytes[i+1]), B: int(int8(bytes[i+2]))})
			}
		}
		fr := e.frame(p)
		for range 30 {
			is, act := executed(p, fr)
			wantDo(t, p, fr, is, act)
			fr = is
			slot := e.near(len(fr.Slots))
			g, ok := frame.Give(fr, slot, e.out())
			if isOK := slot >= 0 && slot < len(fr.Slots) && fr.Slots[slot].State == busy; ok != isOK || frame.Same(g, fr) == isOK {
				t.Errorf("Give into slot %d of %s: %v", slot, told(fr), ok)
			}
			if e.below(2) == 0 {
				fr = g
			}
		}
	})
}
