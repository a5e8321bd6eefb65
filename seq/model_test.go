package seq_test

import (
	"slices"
	"testing"
	"transhumance/api"
	"transhumance/check"
	"transhumance/code"
	"transhumance/gauss"
	"transhumance/op"
	"transhumance/seed"
)

// model executes programs as the chapters' words tell it, with a call for each task and with no frames.
type model struct {
	api.Prog
	used, fuel int
}

// doing is a task: what it has, and what its children left in its slots.
type doing struct {
	locals, stack  []api.Value
	left           map[int]api.Out
	at, seed       int
	spawned, drawn int
}

// predicted is the verdict of P10.1 on a program that can begin.
func predicted(p api.Prog, args []api.Value, s, fuel int) verdict {
	m := model{Prog: p, fuel: fuel}
	out, ok := m.task(0, args, s)
	if !ok {
		return spent
	}
	return verdict{out: out, many: m.used}
}

// task is how a task ends; false if the fuel does not suffice.
func (m *model) task(fn int, args []api.Value, s int) (api.Out, bool) {
	f := m.Prog[fn]
	k := doing{seed: s, left: map[int]api.Out{}, locals: make([]api.Value, f.Locals)}
	copy(k.locals, args)
	for {
		if m.used == m.fuel {
			return api.Out{}, false
		}
		m.used++
		x := f.Code[k.at]
		k.at++
		trap, ok := 0, true
		switch op.Name(x.Op) {
		case "ret":
			return k.end(), true
		case "spawn":
			trap, ok = m.spawn(&k, x.A, x.B)
		default:
			trap = k.simple(x)
		}
		if trap != 0 || !ok {
			return api.Out{Trap: trap}, ok
		}
	}
}

// spawn executes a child of k at once; it returns the code of k's trap or 0, and false if the fuel does not suffice.
func (m *model) spawn(k *doing, fn, slot int) (int, bool) {
	if _, full := k.left[slot]; full {
		return 2, true
	}
	rest := len(k.stack) - m.Prog[fn].Arity
	out, ok := m.task(fn, k.stack[rest:], seed.Child(k.seed, k.spawned))
	k.stack, k.left[slot] = k.stack[:rest], out
	k.spawned++
	return 0, ok
}

// end is how a task ends that returns the top value.
func (k *doing) end() api.Out {
	for slot := range 8 {
		if trap := k.left[slot].Trap; trap != 0 {
			return api.Out{Trap: trap}
		}
	}
	return api.Out{V: k.top(1)}
}

// top is what stands on the stack at that distance from its end, counted from 1.
func (k *doing) top(n int) api.Value {
	return k.stack[len(k.stack)-n]
}

// put replaces that many values.
func (k *doing) put(many int, l ...api.Value) {
	k.stack = append(k.stack[:len(k.stack)-many:len(k.stack)-many], l...)
}

// simple executes what is neither a ret nor a spawn, and returns a trap's code or 0.
func (k *doing) simple(x api.Instr) int {
	switch op.Name(x.Op) {
	case "push":
		k.put(0, api.Value{Re: x.A, Im: x.B})
	case "load":
		k.put(0, k.locals[x.A])
	case "store":
		k.locals[x.A] = k.top(1)
		k.put(1)
	case "add":
		k.put(2, gauss.Add(k.top(2), k.top(1)))
	case "sub":
		k.put(2, gauss.Sub(k.top(2), k.top(1)))
	case "mul":
		k.put(2, gauss.Mul(k.top(2), k.top(1)))
	case "div":
		v, ok := gauss.Div(k.top(2), k.top(1))
		if !ok {
			return 1
		}
		k.put(2, v)
	case "conj":
		k.put(1, gauss.Conj(k.top(1)))
	case "dup":
		k.put(0, k.top(1))
	case "drop":
		k.put(1)
	case "jump":
		k.at = x.A
	case "zero":
		if k.top(1) == (api.Value{}) {
			k.at = x.A
		}
		k.put(1)
	case "rand":
		k.put(0, seed.Draw(k.seed, k.drawn))
		k.drawn++
	case "join":
		out, ok := k.left[x.A]
		delete(k.left, x.A)
		if !ok {
			return 2
		}
		k.put(0, out.V)
		return out.Trap
	case "trap":
		return x.A
	}
	return 0
}

// dice draws numbers, always the same ones.
type dice uint64

// below draws a number from 0 to many - 1.
func (d *dice) below(many int) int {
	*d = *d*6364136223846793005 + 1442695040888963407
	return int(uint64(*d)>>33) % many
}

// writer draws the instructions of one function of a program. None of its pieces takes away a value that stood on the stack before it.
type writer struct {
	*dice
	api.Prog
	api.Func
	fn    int
	depth int
	used  [8]bool // slots into which a child was spawned that was not joined, if no piece was left out
}

// prog draws a safe program of which each function spawns only later ones, so that it ends.
func (d *dice) prog() api.Prog {
	p := make(api.Prog, 1+d.below(6))
	for fn := range p {
		arity := d.below(4)
		p[fn] = api.Func{Arity: arity, Locals: arity + 1 + d.below(3), Slots: d.below(5)}
	}
	for fn, f := range p {
		w := writer{dice: d, Prog: p, Func: f, fn: fn}
		for range 1 + d.below(8) {
			w.piece(0)
		}
		w.last()
		p[fn] = w.Func
	}
	return p
}

// args draws what function 0 of p takes.
func (d *dice) args(p api.Prog) []api.Value {
	var l []api.Value
	for range p[0].Arity {
		l = append(l, api.Value{Re: d.below(251), Im: d.below(2) * d.below(251)})
	}
	return l
}

// put adds an instruction.
func (w *writer) put(name string, fields ...int) {
	n, _ := op.Find(name)
	fields = append(fields, 0, 0)
	x := api.Instr{Op: n, A: fields[0], B: fields[1]}
	pops, pushes := op.Stack(n)
	if name == "spawn" {
		pops = w.Prog[x.A].Arity
	}
	w.depth += pushes - pops
	w.Code = append(w.Code, x)
}

// piece adds some instructions; nest tells in how many loops and choices they stand.
func (w *writer) piece(nest int) {
	if len(w.Code) > 120 {
		return
	}
	switch n := w.below(14); {
	case n < 5 && w.Slots > 0 && w.fn+1 < len(w.Prog):
		w.spawn()
	case n < 7 && w.Slots > 0:
		w.join(w.slot(true))
	case n == 7 && nest < 2:
		w.choice(nest)
	case n == 8 && nest == 0:
		w.loop()
	default:
		w.value()
		w.value()
		w.put([]string{"add", "sub", "mul", "div"}[w.below(4)])
		w.settle()
	}
}

// value adds an instruction that pushes a value.
func (w *writer) value() {
	switch w.below(6) {
	case 0:
		w.put("push", w.below(3), 0)
	case 1:
		w.put("push", w.below(251), w.below(251))
	case 2:
		w.put("rand")
	case 3:
		if w.depth > 0 {
			w.put("dup")
			w.put("conj")
			return
		}
		fallthrough
	default:
		w.put("load", w.below(w.Locals))
	}
}

// settle puts the top value away, as a rule.
func (w *writer) settle() {
	switch n := w.below(5); {
	case n == 0 && w.depth < 8:
	case n < 4 && w.Locals > 1:
		w.put("store", w.below(w.Locals-1)) // the last one counts the rounds of a loop
	default:
		w.put("drop")
	}
}

// slot draws a slot; as a rule one that is used, or one that is not.
func (w *writer) slot(used bool) int {
	for range 4 {
		if at := w.below(w.Slots); w.used[at] == used {
			return at
		}
	}
	return w.below(w.Slots)
}

// spawn adds the spawning of a later function; half of these children are joined at once.
func (w *writer) spawn() {
	child, at := w.fn+1+w.below(len(w.Prog)-w.fn-1), w.slot(false)
	for range w.Prog[child].Arity {
		w.value()
	}
	w.put("spawn", child, at)
	w.used[at] = true
	if w.below(2) == 0 {
		w.join(at)
	}
}

func (w *writer) join(at int) {
	w.put("join", at)
	w.used[at] = false
	w.settle()
}

// choice adds some pieces that are left out if a value is 0.
func (w *writer) choice(nest int) {
	w.value()
	at := len(w.Code)
	w.put("zero")
	w.block(nest + 1)
	w.Code[at].A = len(w.Code)
}

// loop adds some pieces that are executed once or several times.
func (w *writer) loop() {
	count := w.Locals - 1
	w.put("push", 1+w.below(4))
	w.put("store", count)
	top := len(w.Code)
	w.put("load", count)
	w.put("zero")
	w.block(1)
	w.put("load", count)
	w.put("push", 1)
	w.put("sub")
	w.put("store", count)
	w.put("jump", top)
	w.Code[top+1].A = len(w.Code)
}

// block adds some pieces, and takes away all that they leave on the stack.
func (w *writer) block(nest int) {
	before := w.depth
	for range 1 + w.below(2) {
		w.piece(nest)
	}
	for w.depth > before {
		w.put("drop")
	}
}

// last adds the end of a function, which hangs on all that is on the stack.
func (w *writer) last() {
	for w.value(); w.depth > 1; {
		w.put([]string{"add", "sub", "mul"}[w.below(3)])
	}
	if w.below(8) == 0 {
		w.put("trap", 16+w.below(240))
	}
	w.put("ret")
}

// spoil is p with a few other instructions, which may have no end, or be unsafe.
func (d *dice) spoil(p api.Prog) api.Prog {
	q, _ := code.Decode(code.Encode(p))
	for range 1 + d.below(2) {
		f := q[d.below(len(q))].Code
		f[d.below(len(f))] = api.Instr{Op: 10 + d.below(2), A: d.below(len(f))}
	}
	return q
}

// wantPredicted: the model's verdict on a safe program, with that fuel, and at the edges of what it needs if it is as much at most; it returns the verdict.
func wantPredicted(t *testing.T, p api.Prog, args []api.Value, s, fuel int) verdict {
	t.Helper()
	is := predicted(p, args, s, fuel)
	wantEval(t, p, args, s, fuel, is)
	if is == spent {
		return is
	}
	for _, least := range []int{is.many, is.many + 1, maxFuel} {
		wantEval(t, p, args, s, least, is)
	}
	if is.many > 1 {
		wantEval(t, p, args, s, is.many-1, spent)
	}
	return is
}

// P10.1: programs that are drawn, and those with a few changes.
func TestDrawn(t *testing.T) {
	d := dice(1)
	ends, traps, many, none := 0, map[int]int{}, 0, 0
	for range 6000 {
		p := d.prog()
		if _, at, e := check.Check(p); e != api.OK {
			t.Fatalf("%s is not safe at place %d: %d", told(p), at, e)
		}
		args, s := d.args(p), d.below(1<<32)
		is := wantPredicted(t, p, args, s, 4000)
		if is != spent {
			ends++
			traps[min(is.out.Trap, 16)]++
			many = max(many, is.many)
		}
		q := d.spoil(p)
		if _, _, e := check.Check(q); e != api.OK {
			wantRefused(t, q, args, s)
		} else if wantPredicted(t, q, args, s, 500) == spent {
			none++
		}
		if t.Failed() {
			return
		}
	}
	if ends < 3000 || many < 1000 || traps[0] < 1000 || traps[1] < 100 || traps[2] < 100 || traps[16] < 100 || none < 100 {
		t.Errorf("%d ended, with up to %d instructions, traps %v; %d changed ones did not", ends, many, traps, none)
	}
}

// P10.1: all orders of up to five spawns and joins with two slots, and children that end well, with a trap, or with one that they did not join.
func TestAllOrders(t *testing.T) {
	few := []api.Instr{{Op: 13, A: 1}, {Op: 13, A: 1, B: 1}, {Op: 13, A: 2}, {Op: 13, A: 3, B: 1}, {Op: 14}, {Op: 14, A: 1}}
	p := slices.Concat(make(api.Prog, 1), parsed(t, "func 0 0 0; push 7 8; ret; func 0 0 0; trap 40; func 0 0 2; spawn 2 1; push 1 1; ret"))
	found := map[api.Out]int{}
	for many, all := 0, 1; many <= 5; many, all = many+1, all*len(few) {
		for n := range all {
			f := api.Func{Slots: 2, Code: []api.Instr{{Op: 0, A: 5}}}
			for range many {
				f.Code = append(f.Code, few[n%len(few)])
				if n%len(few) > 3 {
					f.Code = append(f.Code, api.Instr{Op: 3})
				}
				n /= len(few)
			}
			f.Code = append(f.Code, api.Instr{Op: 15})
			p[0] = f
			found[wantPredicted(t, p, nil, 1, 100).out]++
		}
		if t.Failed() {
			return
		}
	}
	if len(found) != 5 { // the traps 2 and 40, and the sums with none, one and two joins: there is no room for more
		t.Errorf("%v", found)
	}
}

// P10.2: with all fuels, the verdict is the same from the least one on that suffices.
func TestGreaterFuel(t *testing.T) {
	d := dice(2)
	found := 0
	for range 400 {
		p, s := d.prog(), d.below(1<<32)
		args := d.args(p)
		is := evaluated(p, args, s, 150)
		if is == spent {
			continue
		}
		found++
		for fuel := 1; fuel < is.many; fuel++ {
			wantEval(t, p, args, s, fuel, spent)
		}
		for fuel := is.many; fuel < is.many+40; fuel++ {
			wantEval(t, p, args, s, fuel, is)
		}
		wantEnds(t, p, args, s, is)
	}
	if found < 200 {
		t.Errorf("%d programs ended", found)
	}
}

// P10.1, R1: whatever the program, the arguments, the seed and the fuel are.
func FuzzEval(f *testing.F) {
	d := dice(3)
	for n := range 20 {
		p := d.prog()
		f.Add(uint64(n), code.Encode(p), len(p[0].Code), n, 100*n)
	}
	f.Add(uint64(5), "\x01\x00\x00\x00\x01\x0a\x00", 1<<32, -1, 100000)
	f.Fuzz(func(t *testing.T, dicing uint64, bytes string, s, re, fuel int) {
		d := dice(dicing)
		given, _ := code.Decode(bytes)
		for _, p := range []api.Prog{given, d.prog(), d.spoil(d.prog()), {{Arity: re, Locals: s, Slots: fuel, Code: []api.Instr{{Op: re, A: s, B: fuel}}}}} {
			if _, _, e := check.Check(p); e != api.OK {
				wantRefused(t, p, nil, s)
				continue
			}
			args := d.args(p)
			if len(args) > 0 {
				args[0].Re = re
			}
			if s < 0 || s >= 1<<32 || len(args) > 0 && (re < 0 || re > 250) {
				wantRefused(t, p, args, s)
			} else if fuel < 1 || fuel > maxFuel {
				wantEval(t, p, args, s, fuel, refused)
			} else {
				wantPredicted(t, p, args, s, fuel)
			}
		}
	})
}
