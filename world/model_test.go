package world_test

import (
	"fmt"
	"reflect"
	"slices"
	"sync"
	"testing"
	"transhumance/api"
	"transhumance/check"
	"transhumance/world"
)

// dice draws numbers, always the same ones.
type dice uint64

// below draws a number from 0 to many - 1.
func (d *dice) below(many int) int {
	*d = *d*6364136223846793005 + 1442695040888963407
	return int(uint64(*d)>>33) % many
}

// number draws a number, often an odd one.
func (d *dice) number() int {
	if d.below(8) == 0 {
		return far[d.below(len(far))]
	}
	return d.below(12) - 1
}

// fill gives v, and all that is in it, drawn values; lists have up to three elements, and often marks behind them in their memory.
func (d *dice) fill(v reflect.Value) {
	switch v.Kind() {
	case reflect.Int:
		v.SetInt(int64(d.number()))
	case reflect.Bool:
		v.SetBool(d.below(2) == 0)
	case reflect.Struct:
		for i := range v.NumField() {
			d.fill(v.Field(i))
		}
	case reflect.Slice:
		many := d.below(4)
		l := reflect.MakeSlice(v.Type(), many+d.below(2), many+3)
		for i := range l.Len() {
			d.fill(l.Index(i))
		}
		v.Set(l.Slice(0, many))
	}
}

// ring draws a valid ring that may have as many items.
func (d *dice) ring(most int) api.Ring {
	most = 1 + d.below(most)
	room := 1 + d.below(most)
	r := api.Ring{Head: d.below(room), Many: d.below(room + 1), Most: most}
	for range room {
		r.Buf = append(r.Buf, d.ref())
	}
	return r
}

// ref draws a ref, often none.
func (d *dice) ref() api.Ref {
	return api.Ref{At: d.below(5) - 1, Gen: d.below(2)}
}

// world draws a world of which nothing has to fit, but many rings are valid.
func (d *dice) world() api.World {
	var w api.World
	d.fill(reflect.ValueOf(&w).Elem())
	for at := range w.Rings {
		if d.below(4) > 0 {
			w.Rings[at] = d.ring(8)
		}
	}
	w.Cur = nil
	for range d.below(5) {
		w.Cur = append(w.Cur, d.ref())
	}
	return w
}

// prog draws a program, which is safe or has a fault.
func (d *dice) prog() api.Prog {
	p := make(api.Prog, 1+d.below(3))
	for fn := range p {
		f := api.Func{Locals: 1 + d.below(4), Slots: 1 + d.below(3)}
		f.Arity = d.below(f.Locals + 1)
		for range 1 + d.below(4) {
			f.Code = append(f.Code, api.Instr{Op: api.OpLoad, A: d.below(f.Locals)})
		}
		if d.below(3) == 0 && p[0].Arity == 0 {
			f.Code = append(f.Code, api.Instr{Op: api.OpSpawn, B: d.below(f.Slots)})
		}
		f.Code = append(f.Code, api.Instr{Op: api.OpRet})
		if d.below(12) == 0 {
			x := &f.Code[d.below(len(f.Code))]
			x.Op, x.A = d.below(api.Ops), d.below(6)
		}
		if d.below(30) == 0 {
			d.fill(reflect.ValueOf(&f).Elem())
		}
		p[fn] = f
	}
	return p
}

// args draws what function 0 of p may take, or not quite.
func (d *dice) args(p api.Prog) []api.Value {
	many := max(p[0].Arity, 0)%20 + d.below(12)/11 - d.below(12)/11
	l := make([]api.Value, max(many, 0))
	for i := range l {
		l[i] = api.Value{Re: d.below(251), Im: d.below(251) + d.below(30)/29}
	}
	return l
}

func between(n, first, last int) bool {
	return n >= first && n <= last
}

// begins reports whether there is a new world of this, as P13.1 tells it.
func begins(p api.Prog, args []api.Value, s, workers int, l api.Limits) bool {
	_, _, e := check.Check(p)
	for _, v := range args {
		if !between(v.Re, 0, 250) || !between(v.Im, 0, 250) {
			return false
		}
	}
	return e == ok && len(args) == p[0].Arity && between(s, 0, maxSeed) && between(workers, 1, maxWorkers) &&
		between(l.Fuel, 1, maxFuel) && between(l.Frames, 1, maxFrames) && between(l.Ring, 1, maxRing)
}

// wantBegin: what New makes of this, whatever it is; whether there is a world of it.
func wantBegin(t *testing.T, p api.Prog, args []api.Value, s, workers int, l api.Limits) bool {
	t.Helper()
	is := begins(p, args, s, workers, l)
	if is {
		wantNew(t, p, args, s, workers, l)
	} else {
		wantRefused(t, p, args, s, workers, l)
	}
	if between(workers, 1, maxWorkers) && between(l.Ring, 1, maxRing) {
		rings, cur := idle(workers, l.Ring)
		wantFresh(t, workers, l, rings, cur)
	} else {
		wantFresh(t, workers, l, nil, nil)
	}
	return is
}

// readyOf is what P13.2 calls the ready refs of w, found by going from index to index.
func readyOf(w api.World) []api.Ref {
	var l []api.Ref
	for worker := range w.Rings {
		if worker < len(w.Cur) {
			if r := w.Cur[worker]; r.At != -1 || r.Gen != 0 {
				l = append(l, r)
			}
		}
		r := w.Rings[worker]
		room := len(r.Buf)
		if !between(r.Most, 1, maxRing) || !between(room, 1, r.Most) || !between(r.Head, 0, room-1) || !between(r.Many, 0, room) {
			continue
		}
		at := r.Head
		for range r.Many {
			l = append(l, r.Buf[at])
			if at++; at == room {
				at = 0
			}
		}
	}
	return l
}

// P13.1 to P13.3: drawn programs, arguments, seeds, workers and limits.
func TestNewDrawn(t *testing.T) {
	d := dice(1)
	begun := 0
	for range 20000 {
		p := d.prog()
		odd := func(most int) int {
			if d.below(30) == 0 {
				return d.number()
			}
			return 1 + d.below(most)
		}
		if wantBegin(t, p, d.args(p), odd(maxSeed), odd(maxWorkers), api.Limits{Fuel: odd(maxFuel), Frames: odd(maxFrames), Ring: odd(maxRing)}) {
			begun++
		}
		if t.Failed() {
			return
		}
	}
	if begun < 5000 || begun > 15000 {
		t.Errorf("%d begin", begun)
	}
}

// P13.2, R1: drawn worlds.
func TestReadyDrawn(t *testing.T) {
	d := dice(2)
	many := 0
	for range 20000 {
		w := d.world()
		is := readyOf(w)
		wantReady(t, w, is...)
		many += len(is)
	}
	if many < 40000 {
		t.Errorf("%d refs", many)
	}
}

// P13.2, R1: which worlds are the same, of worlds that differ in a few things or in none.
func TestSameDrawn(t *testing.T) {
	d := dice(3)
	alike := 0
	for range 3000 {
		w := d.world()
		other := roomy(w)
		for range d.below(3) {
			d.change(reflect.ValueOf(&other).Elem())
		}
		is := told(w) == told(other)
		if wantSame(t, w, other, is, "drawn"); is {
			alike++
		}
	}
	if alike < 800 || alike > 2500 {
		t.Errorf("%d are alike", alike)
	}
}

// change draws something in v and draws it anew.
func (d *dice) change(v reflect.Value) {
	switch {
	case v.Kind() == reflect.Struct:
		d.change(v.Field(d.below(v.NumField())))
	case v.Kind() == reflect.Slice && v.Len() > 0 && d.below(4) > 0:
		d.change(v.Index(d.below(v.Len())))
	default:
		d.fill(v)
	}
}

// copied is v in other memory, with something drawn behind each of its lists.
func copied(v reflect.Value) reflect.Value {
	c := reflect.New(v.Type()).Elem()
	c.Set(v)
	switch v.Kind() {
	case reflect.Struct:
		for i := range v.NumField() {
			c.Field(i).Set(copied(v.Field(i)))
		}
	case reflect.Slice:
		many := v.Len()
		l := reflect.MakeSlice(v.Type(), many+1, many+2)
		for i := range many {
			l.Index(i).Set(copied(v.Index(i)))
		}
		d := dice(77)
		d.fill(l.Index(many))
		c.Set(l.Slice(0, many))
	}
	return c
}

// roomy is x in other memory, with marks behind all its lists.
func roomy[T any](x T) T {
	return copied(reflect.ValueOf(x)).Interface().(T)
}

// span is the memory of a list, with what is behind it.
type span struct {
	from, to uintptr
	name     string
}

// spans are those of all lists in v.
func spans(v reflect.Value, name string) []span {
	var l []span
	switch v.Kind() {
	case reflect.Struct:
		for i := range v.NumField() {
			l = append(l, spans(v.Field(i), name+"."+v.Type().Field(i).Name)...)
		}
	case reflect.Slice:
		if v.Cap() > 0 {
			l = append(l, span{v.Pointer(), v.Pointer() + uintptr(v.Cap())*v.Type().Elem().Size(), name})
		}
		for i := range v.Len() {
			l = append(l, spans(v.Index(i), fmt.Sprint(name, i))...)
		}
	}
	return l
}

// wantApart: no two lists in these things share memory.
func wantApart(t *testing.T, things ...any) {
	t.Helper()
	var l []span
	for i, x := range things {
		l = append(l, spans(reflect.ValueOf(x), fmt.Sprint("thing ", i))...)
	}
	slices.SortFunc(l, func(a, b span) int { return int(a.from) - int(b.from) })
	for i := 1; i < len(l); i++ {
		if l[i-1].to > l[i].from {
			t.Errorf("%s shares memory with %s", l[i-1].name, l[i].name)
		}
	}
}

// beyond tells v with all that is behind its lists.
func beyond(v reflect.Value) string {
	switch v.Kind() {
	case reflect.Struct:
		s := ""
		for i := range v.NumField() {
			s += beyond(v.Field(i)) + " "
		}
		return s
	case reflect.Slice:
		s := ""
		for i := range v.Len() {
			s += beyond(v.Index(i))
		}
		return fmt.Sprint("[", s, v.Slice(0, v.Cap()), "]")
	}
	return fmt.Sprint(v)
}

// R4: no result shares memory with an argument or with another result, nor a list of it with another one.
func TestMemoryApart(t *testing.T) {
	d := dice(4)
	for range 500 {
		p := roomy(d.prog())
		args := roomy(d.args(p))
		l := api.Limits{Fuel: 9, Frames: 1 + d.below(9), Ring: 1 + d.below(9)}
		v, _ := world.New(p, args, 3, 1+d.below(64), l)
		w, _ := world.New(p, args, 3, 1+d.below(64), l)
		rings, cur := world.Fresh(1+d.below(64), l)
		others, refs := world.Fresh(3, l)
		wantApart(t, p, args, v, w, rings, cur, others, refs)
		x := roomy(d.world())
		wantApart(t, x, world.Ready(x), world.Ready(x))
		if t.Failed() {
			return
		}
	}
}

// R4: the lists of a new world are apart, even if those that were given are not.
func TestListsApart(t *testing.T) {
	instrs := []api.Instr{{Op: api.OpRand}, {Op: api.OpRand}, {Op: api.OpRet}}
	p := api.Prog{{Code: instrs}, {Code: instrs[1:]}, {Code: instrs}}
	w, e := world.New(p, nil, 3, 2, common)
	if e != ok || told(w) != told(begun(p, nil, 3, 2, common)) {
		t.Errorf("error %d, %s", e, told(w))
	}
	wantApart(t, instrs, w)
	l := refs(1, 2, 3)
	r := api.Ring{Buf: l, Many: 3, Most: 3}
	x := api.World{Rings: []api.Ring{r, r}, Cur: l}
	wantApart(t, l, world.Ready(x))
}

// R4: no call changes what it is given, nor what stands behind it in its memory.
func TestArgumentsKept(t *testing.T) {
	d := dice(5)
	for range 2000 {
		p := roomy(d.prog())
		args, w := roomy(d.args(p)), roomy(d.world())
		tell := func() string {
			return beyond(reflect.ValueOf(p)) + beyond(reflect.ValueOf(args)) + beyond(reflect.ValueOf(w))
		}
		is := tell()
		world.New(p, args, 3, 4, common)
		world.Ready(w)
		world.Same(w, w)
		if now := tell(); now != is {
			t.Fatalf("%s, now %s", is, now)
		}
	}
}

// R3: the same results again, after other calls, and beside them.
func TestAgain(t *testing.T) {
	d := dice(6)
	var all sync.WaitGroup
	for range 300 {
		p, w := d.prog(), d.world()
		args, s, workers := d.args(p), d.below(maxSeed), 1+d.below(6)
		results := func() string {
			v, e := world.New(p, args, s, workers, common)
			rings, cur := world.Fresh(workers, common)
			return fmt.Sprint(told(v), e, rings, cur, world.Ready(w), world.Same(v, w), world.Same(w, w))
		}
		is := results()
		for range 3 {
			all.Add(1)
			go func() {
				defer all.Done()
				if now := results(); now != is {
					t.Errorf("%s, now %s", is, now)
				}
			}()
		}
	}
	all.Wait()
}

// R1: worlds, limits and programs that are very long.
func TestLong(t *testing.T) {
	w := some()
	w.Rings, w.Cur = make([]api.Ring, 1<<18), make([]api.Ref, 1<<19)
	w.Prog = make(api.Prog, 1<<18)
	w.Pen.Cells, w.Pen.Free = make([]api.Cell, 1<<16), make([]int, 1<<18)
	if l := world.Ready(w); len(l) != 1<<18 {
		t.Errorf("%d refs", len(l))
	}
	wantSame(t, w, w, true, "a long world")
	v := w
	v.Cur = slices.Clone(w.Cur)
	v.Cur[len(v.Cur)-1].Gen--
	wantSame(t, v, w, false, "a long world")
	wantRefused(t, w.Prog, make([]api.Value, 1<<20), 3, 2, common)
	wantRefused(t, parsed(t, goodProgs[0]), make([]api.Value, 1<<20), 3, 2, common)
}

// P13.1 to P13.3, R1: whatever is given.
func FuzzWorlds(f *testing.F) {
	f.Add(uint64(1), 7, 3, 50, 9, 4)
	f.Add(uint64(2), 0, 1, 1, 1, 1)
	f.Add(uint64(3), maxSeed, 64, maxFuel, maxFrames, maxRing)
	f.Add(uint64(4), maxSeed+1, 65, maxFuel+1, maxFrames+1, maxRing+1)
	f.Add(uint64(5), -1, 0, 0, 0, 0)
	f.Fuzz(func(t *testing.T, dicing uint64, s, workers, fuel, frames, ring int) {
		d := dice(dicing)
		p := d.prog()
		args := d.args(p)
		wantBegin(t, p, args, s, workers, api.Limits{Fuel: fuel, Frames: frames, Ring: ring})
		wantBegin(t, p, args, s&maxSeed, 1+workers&63, api.Limits{Fuel: 1 + fuel&0xffff, Frames: 1 + frames&1023, Ring: 1 + ring&1023})
		w := d.world()
		w.Used, w.Steals, w.Misses, w.Limits.Ring = fuel, frames, ring, s
		wantReady(t, w, readyOf(w)...)
		v := roomy(w)
		wantSame(t, v, w, true, "a copy")
		d.change(reflect.ValueOf(&v).Elem())
		wantSame(t, v, w, told(v) == told(w), "changed")
	})
}
