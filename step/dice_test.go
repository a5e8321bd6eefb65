package step_test

import (
	"reflect"
	"slices"
	"testing"
	"transhumance/api"
	"transhumance/check"
	"transhumance/code"
	"transhumance/op"
	"transhumance/world"
)

// dice draws numbers, always the same ones.
type dice uint64

// below draws a number from 0 to many - 1.
func (d *dice) below(many int) int {
	*d = *d*6364136223846793005 + 1442695040888963407
	return int(uint64(*d)>>33) % many
}

// number draws a number, often an odd one.
func (d *dice) number() int {
	if d.below(8) == 0 {
		return far[d.below(len(far))]
	}
	return d.below(12) - 1
}

// fill gives v, and all that is in it, drawn values.
func (d *dice) fill(v reflect.Value) {
	switch v.Kind() {
	case reflect.Int:
		v.SetInt(int64(d.number()))
	case reflect.Bool:
		v.SetBool(d.below(2) == 0)
	case reflect.Struct:
		for i := range v.NumField() {
			d.fill(v.Field(i))
		}
	case reflect.Slice:
		l := reflect.MakeSlice(v.Type(), d.below(4), 5)
		for i := range l.Len() {
			d.fill(l.Index(i))
		}
		v.Set(l)
	}
}

// change draws something in v and draws it anew.
func (d *dice) change(v reflect.Value) {
	switch {
	case v.Kind() == reflect.Struct:
		d.change(v.Field(d.below(v.NumField())))
	case v.Kind() == reflect.Slice && v.Len() > 0 && d.below(8) > 0:
		d.change(v.Index(d.below(v.Len())))
	default:
		d.fill(v)
	}
}

// pick draws a step of one of so many workers, or now and then of another one.
func (d *dice) pick(workers int) api.Pick {
	p := api.Pick{Worker: d.below(workers), Victim: d.below(workers), Half: d.below(2) == 0}
	if d.below(30) == 0 {
		p.Worker = d.number()
	}
	if d.below(30) == 0 {
		p.Victim = d.number()
	}
	return p
}

// writer draws the instructions of one function of a program; between its pieces the stack is empty.
type writer struct {
	*dice
	api.Prog
	api.Func
	fn int
}

func (w *writer) put(name string, fields ...int) {
	n, _ := op.Find(name)
	fields = append(fields, 0, 0)
	w.Code = append(w.Code, api.Instr{Op: n, A: fields[0], B: fields[1]})
}

// prog draws a safe program; as a rule each function spawns later ones only and has no loop, so that it ends.
func (d *dice) prog() api.Prog {
	p := make(api.Prog, 1+d.below(6))
	for fn := range p {
		arity := d.below(3)
		p[fn] = api.Func{Arity: arity, Locals: arity + 1 + d.below(2), Slots: min(d.below(8), 4)}
	}
	for fn, f := range p {
		w := writer{dice: d, Prog: p, Func: f, fn: fn}
		for range d.below(12) {
			w.piece()
		}
		w.last()
		p[fn] = w.Func
	}
	return p
}

func (w *writer) piece() {
	switch n := w.below(12); {
	case n < 6 && w.Slots > 0:
		w.spawn()
	case n == 7 && w.Slots > 0:
		w.join(w.below(w.Slots))
	case n == 8:
		w.put("jump", len(w.Code)+1)
	case n == 9:
		w.value()
		w.put("zero", len(w.Code)+1+w.below(2))
		w.put("rand")
		w.put("drop")
		w.Code[len(w.Code)-3].A = len(w.Code)
	default:
		w.value()
		w.value()
		w.put([]string{"add", "sub", "mul", "div"}[w.below(4)])
		w.put("store", w.below(w.Locals))
	}
}

func (w *writer) value() {
	switch w.below(4) {
	case 0:
		w.put("push", w.below(3), 0)
	case 1:
		w.put("rand")
	case 2:
		w.put("load", w.below(w.Locals))
		w.put("conj")
	default:
		w.put("load", w.below(w.Locals))
	}
}

// spawn adds the spawning of a later function, or rarely of any; some of these children are joined at once.
func (w *writer) spawn() {
	child, slot := w.fn+1, w.below(w.Slots)
	if w.below(40) == 0 {
		child = w.below(len(w.Prog))
	}
	if child >= len(w.Prog) {
		return
	}
	child += w.below(len(w.Prog) - child)
	for range w.Prog[child].Arity {
		w.value()
	}
	w.put("spawn", child, slot)
	if w.below(4) == 0 {
		w.join(slot)
	}
}

func (w *writer) join(slot int) {
	w.put("join", slot)
	w.put("store", w.below(w.Locals))
}

// last adds the end of a function, or rarely none.
func (w *writer) last() {
	switch w.below(15) {
	case 0:
		w.put("trap", 16+w.below(240))
	case 1:
		if w.below(4) == 0 {
			w.put("jump", 0)
			return
		}
	}
	w.value()
	w.put("ret")
}

// args draws what function 0 of p takes.
func (d *dice) args(p api.Prog) []api.Value {
	var l []api.Value
	for range p[0].Arity {
		l = append(l, api.Value{Re: d.below(251), Im: d.below(2) * d.below(251)})
	}
	return l
}

// begin draws a world that begins.
func (d *dice) begin(t *testing.T, l api.Limits) (api.World, []api.Value, int) {
	t.Helper()
	p := d.prog()
	if fn, at, e := check.Check(p); e != api.OK {
		t.Fatalf("function %d of %q is not safe at %d: %d", fn, code.Text(p), at, e)
	}
	args, s := d.args(p), d.below(1<<31)*2+d.below(2)
	w, e := world.New(p, args, s, 1+d.below(5), l)
	if e != api.OK {
		t.Fatalf("%q with %v, %d, %v: error %d", code.Text(p), args, s, l, e)
	}
	return w, args, s
}

// ref draws a ref of one of so many cells, all of the generation 0 or 1, or one of none.
func (d *dice) ref(cells int) api.Ref {
	if d.below(12) == 0 {
		return api.Ref{At: d.number(), Gen: d.number()}
	}
	if d.below(8) == 0 {
		return noRef
	}
	return api.Ref{At: d.below(cells), Gen: d.below(8) / 7}
}

// frame draws a frame of which nothing has to fit, but whose instruction can be executed as a rule.
func (d *dice) frame(p api.Prog, cells int) api.Frame {
	f := api.Frame{Fn: d.below(len(p)), Seed: d.below(1 << 31), Up: d.ref(cells), UpSlot: d.below(3), Wait: d.below(3)}
	f.Pc = d.below(len(p[f.Fn].Code))
	spawns := func(x api.Instr) bool { return x.Op == api.OpSpawn }
	if at := slices.IndexFunc(p[f.Fn].Code, spawns); at >= 0 && d.below(3) == 0 {
		f.Pc = at
	} else if d.below(2) == 0 {
		f.Pc = len(p[f.Fn].Code) - 1 // there it ends, as a rule
	}
	f.Stack, f.Locals = d.values(), make([]api.Value, p[f.Fn].Locals)
	f.State = []int{ready, waits, ends, ends, 3}[d.below(5)]
	for range 1 + d.below(3) {
		f.Slots = append(f.Slots, api.Slot{State: []int{empty, empty, busy, busy, busy, done, done, 3}[d.below(8)], Kid: d.ref(cells), Out: d.out()})
	}
	if f.State == ends || d.below(8) == 0 {
		f.Out = d.out()
	}
	return f
}

func (d *dice) values() []api.Value {
	var l []api.Value
	for range d.below(5) {
		l = append(l, api.Value{Re: d.below(252), Im: d.below(251)})
	}
	return l
}

func (d *dice) out() api.Out {
	if d.below(2) == 0 {
		return api.Out{Trap: d.below(256)}
	}
	return api.Out{V: api.Value{Re: d.below(251), Im: d.below(251)}}
}

// thicket draws a world whose pen is valid as a rule, and whose frames stand above each other anyhow.
func (d *dice) thicket() api.World {
	w := api.World{Prog: d.prog(), Limits: api.Limits{Fuel: 30 + d.below(60), Frames: 12, Ring: 4}, Used: d.below(40)}
	many := 1 + d.below(10)
	w.Pen.Most = many + d.below(2)
	for at := range many {
		c := api.Cell{Gen: d.below(8) / 7, Used: d.below(6) > 0}
		if c.Used {
			c.Frame = d.frame(w.Prog, many)
		} else {
			w.Pen.Free = slices.Insert(w.Pen.Free, d.below(len(w.Pen.Free)+1), at)
		}
		w.Pen.Cells = append(w.Pen.Cells, c)
	}
	for range 1 + d.below(4) {
		most := 1 + d.below(6)
		room := 1 + d.below(most)
		r := api.Ring{Head: d.below(room), Many: d.below(room + 1), Most: most}
		for range room {
			r.Buf = append(r.Buf, d.ref(many))
		}
		w.Rings, w.Cur = append(w.Rings, r), append(w.Cur, d.cur(&w.Pen))
	}
	return w
}

// cur draws what a worker executes, which is ready as a rule, and often without a child under way.
func (d *dice) cur(p *api.Pen) api.Ref {
	r := d.ref(len(p.Cells))
	if r.At < 0 || r.At >= len(p.Cells) || d.below(6) == 0 {
		return r
	}
	c := &p.Cells[r.At]
	c.Frame.State = ready
	for slot := range c.Frame.Slots {
		if d.below(2) == 0 {
			c.Frame.Slots[slot].State = done
		}
	}
	return api.Ref{At: r.At, Gen: c.Gen}
}
