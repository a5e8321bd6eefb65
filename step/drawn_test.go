package step_test

import (
	"reflect"
	"slices"
	"testing"
	"transhumance/api"
	"transhumance/code"
	"transhumance/pen"
	"transhumance/seq"
	"transhumance/step"
	"transhumance/world"
)

// wantSound: each frame that is ready is that of a Cur or in a ring, once, and no other one is; each child under way knows its task, and is known by it.
func wantSound(t *testing.T, w api.World) {
	t.Helper()
	all, have := []api.Ref{}, world.Ready(w)
	for _, r := range pen.Refs(w.Pen) {
		f, _ := pen.Get(w.Pen, r)
		if f.State == ready {
			all = append(all, r)
		}
		for slot, s := range f.Slots {
			if s.State == busy {
				kid, found := pen.Get(w.Pen, s.Kid)
				if !found || kid.Up != r || kid.UpSlot != slot {
					t.Errorf("the child %v of %v is not in %s", s.Kid, r, short(told(w)))
				}
			}
		}
		if up, found := pen.Get(w.Pen, f.Up); r != w.Root && (!found || up.Slots[f.UpSlot].Kid != r || up.Slots[f.UpSlot].State != busy) {
			t.Errorf("%v is nobody's child in %s", r, short(told(w)))
		}
	}
	slices.SortFunc(have, func(a, b api.Ref) int { return a.At - b.At })
	if !slices.Equal(all, have) || w.State == runs && len(all) == 0 || w.State == over && len(pen.Refs(w.Pen)) > 0 {
		t.Errorf("%v are ready, the workers have %v: %s", all, have, short(told(w)))
	}
}

// wantRun makes drawn steps as long as w runs, and that many at most.
func wantRun(t *testing.T, d *dice, w api.World, many int) api.World {
	t.Helper()
	for range many {
		p := d.pick(len(w.Rings))
		next := wantDo(t, w, p, stepped(w, p))
		wantSound(t, next)
		if t.Failed() || next.State != runs {
			return next
		}
		w = next
	}
	return w
}

// wantResult: a run that ended has the result of sequential execution; one that stopped for its fuel has none with that fuel either.
func wantResult(t *testing.T, w api.World, args []api.Value, s int) {
	t.Helper()
	out, many, e := seq.Eval(w.Prog, args, s, w.Limits.Fuel)
	switch {
	case w.State == over && (e != api.OK || w.Out != out || w.Used != many):
		t.Errorf("%q with %v, %d: %v after %d, want %v after %d, error %d", code.Text(w.Prog), args, s, w.Out, w.Used, out, many, e)
	case w.State == stops && w.Err == errFuel && (e != errFuel || w.Used != w.Limits.Fuel):
		t.Errorf("%q with %v, %d: ErrFuel after %d, want %v after %d, error %d", code.Text(w.Prog), args, s, w.Used, out, many, e)
	case w.State == stops && w.Err != errFuel && w.Err != errFrames && w.Err != errFull:
		t.Errorf("%q with %v, %d: error %d", code.Text(w.Prog), args, s, w.Err)
	}
}

// P14.1 to P14.4: programs, numbers of workers, limits and steps that are drawn, step by step.
func TestDrawn(t *testing.T) {
	d := dice(1)
	states, stopped, steals, misses := map[int]int{}, map[api.Errno]int{}, 0, 0
	for range 1200 {
		l := api.Limits{Fuel: 1 + d.below(150), Frames: 1024, Ring: 1024}
		switch d.below(4) {
		case 0:
			l.Frames = 1 + d.below(8)
		case 1:
			l.Ring = 1 + d.below(2)
		}
		w, args, s := d.begin(t, l)
		w = wantRun(t, &d, w, 1500)
		wantResult(t, w, args, s)
		if t.Failed() {
			return
		}
		states[w.State]++
		stopped[w.Err]++
		steals, misses = steals+w.Steals, misses+w.Misses
	}
	if states[over] < 300 || states[runs] > 50 || stopped[errFuel] < 100 || stopped[errFrames] < 30 || stopped[errFull] < 10 || steals < 500 || misses < 10000 {
		t.Errorf("states %v, errors %v, %d steals, %d misses", states, stopped, steals, misses)
	}
}

// P14.1 to P14.3: programs that end do so, whoever steps, with the least fuel that sequential execution needs, and with no less.
func TestResults(t *testing.T) {
	d := dice(2)
	found, traps := 0, 0
	for range 400 {
		l := api.Limits{Fuel: 300, Frames: 1024, Ring: 1024}
		w, args, s := d.begin(t, l)
		out, many, e := seq.Eval(w.Prog, args, s, l.Fuel)
		if e != api.OK || many < 2 {
			continue
		}
		found++
		traps += min(out.Trap, 1)
		for fuel := many - 1; fuel <= many; fuel++ {
			w.Limits.Fuel = fuel
			last := wantRun(t, &d, w, 20000)
			wantResult(t, last, args, s)
			if isOver := last.State == over; isOver != (fuel == many) {
				t.Errorf("%s with the fuel %d, of which it needs %d", short(told(last)), fuel, many)
			}
		}
		if t.Failed() {
			return
		}
	}
	if found < 200 || traps < 30 {
		t.Errorf("%d end, %d with a trap", found, traps)
	}
}

// P14.1 to P14.3: all orders of all steps, for small programs: every state that can be reached, and every end.
func TestAllOrders(t *testing.T) {
	for _, c := range []struct {
		lines   string
		workers int
		least   int
	}{
		{"func 0 0 2; spawn 1 0; spawn 1 1; join 0; join 1; sub; ret; func 0 0 0; rand; ret", 2, 100},
		{"func 0 0 3; spawn 1 0; spawn 1 1; spawn 1 2; join 1; ret; func 0 0 0; rand; ret", 3, 1000},
		{"func 0 0 2; spawn 1 1; spawn 1 0; push 1 1; ret; func 0 0 1; spawn 2 0; push 1 2; ret; func 0 0 0; trap 40", 2, 300},
		{"func 0 0 1; spawn 1 0; join 0; ret; func 0 0 1; spawn 2 0; join 0; ret; func 0 0 0; rand; ret", 3, 50},
		{"func 0 0 2; spawn 1 0; spawn 1 0; trap 50; func 0 0 0; rand; ret", 2, 10},
	} {
		p := parsed(t, c.lines)
		w, _ := world.New(p, nil, 9, c.workers, api.Limits{Fuel: 40, Frames: 9, Ring: 4})
		out, many, _ := seq.Eval(p, nil, 9, 40)
		seen, left := map[string]bool{told(w): true}, []api.World{w}
		ended := 0
		for len(left) > 0 && !t.Failed() {
			w, left = left[len(left)-1], left[:len(left)-1]
			wantSound(t, w)
			if w.State != runs {
				ended++
				if w.State != over || w.Out != out || w.Used != many {
					t.Errorf("%q: %s, want %v after %d", c.lines, told(w), out, many)
				}
			}
			for worker := range c.workers {
				for victim := range c.workers {
					for _, half := range []bool{false, true} {
						p := api.Pick{Worker: worker, Victim: victim, Half: half}
						next := wantDo(t, w, p, stepped(w, p))
						next.Steals, next.Misses = 0, 0
						if s := told(next); !seen[s] {
							seen[s] = true
							left = append(left, next)
						}
					}
				}
			}
		}
		if len(seen) < c.least || ended == 0 {
			t.Errorf("%q: %d states, %d of them ends", c.lines, len(seen), ended)
		}
	}
}

// P14.1 to P14.3, R1: worlds that were begun, with a few numbers or lists of them drawn anew.
func TestChanged(t *testing.T) {
	d := dice(3)
	made := map[int]int{}
	for range 1500 {
		w, _, _ := d.begin(t, api.Limits{Fuel: 150, Frames: 20, Ring: 6})
		for range d.below(40) {
			if next := step.Do(w, d.pick(len(w.Rings))); next.State == runs {
				w = next
			}
		}
		for range 10 {
			x := roomy(w)
			for range 1 + d.below(3) {
				d.change(reflect.ValueOf(&x).Elem())
			}
			for range 4 {
				p := d.pick(1 + len(w.Rings))
				next := wantDo(t, x, p, stepped(x, p))
				made[kind(x, next)]++
				x = next
			}
		}
		if t.Failed() {
			return
		}
	}
	for k := range 6 {
		if made[k] < 200 {
			t.Errorf("of the kind %d are %d", k, made[k])
		}
	}
}

// kind tells one sort of steps from the others.
func kind(w, next api.World) int {
	switch {
	case next.State == stops && w.State != stops:
		return 0
	case next.Misses != w.Misses:
		return 1
	case next.Steals != w.Steals:
		return 2
	case next.Used != w.Used:
		return 3
	case world.Same(w, next):
		return 4
	}
	return 5
}

// P14.1 to P14.3, R1: frames above each other anyhow, with slots and states that need not fit.
func TestThickets(t *testing.T) {
	d := dice(4)
	closed, made := map[int]int{}, map[int]int{}
	for range 8000 {
		w := d.thicket()
		for range 5 {
			p := d.pick(len(w.Rings))
			next := wantDo(t, w, p, stepped(w, p))
			closed[len(next.Pen.Free)-len(w.Pen.Free)]++
			made[kind(w, next)]++
			w = next
		}
		if t.Failed() {
			return
		}
	}
	if closed[1] < 1000 || closed[2] < 100 || closed[3] < 5 || closed[-1] < 20 || made[0] < 100 || made[1] < 500 || made[2] < 500 || made[3] < 5000 {
		t.Errorf("frames closed at once: %v, steps %v", closed, made)
	}
}

// P14.1, R1: worlds of any numbers.
func TestAnything(t *testing.T) {
	d := dice(5)
	for range 10000 {
		var w api.World
		d.fill(reflect.ValueOf(&w).Elem())
		if d.below(3) > 0 {
			w.State = runs
		}
		for range 3 {
			p := d.pick(4)
			wantDo(t, w, p, stepped(w, p))
		}
		if t.Failed() {
			return
		}
	}
}

// P14.1 to P14.4, R1: whatever the world and the steps are.
func FuzzSteps(f *testing.F) {
	f.Add(uint64(1), 50, 9, 4, 0, []byte{0, 1, 2, 3, 200})
	f.Add(uint64(2), 1, 1, 1, 1, []byte{0, 0, 0})
	f.Add(uint64(3), 100000, 1024, 1024, -1, []byte{255, 16, 4, 9, 9, 9})
	f.Fuzz(func(t *testing.T, dicing uint64, fuel, frames, ring, number int, bytes []byte) {
		d := dice(dicing)
		begun, _, _ := d.begin(t, api.Limits{Fuel: 1 + fuel&0xffff, Frames: 1 + frames&1023, Ring: 1 + ring&1023})
		thicket := d.thicket()
		thicket.Limits.Fuel, thicket.Pen.Most, thicket.Rings[0].Most, thicket.Misses = fuel, frames, ring, number
		changed := roomy(begun)
		d.change(reflect.ValueOf(&changed).Elem())
		for _, w := range []api.World{begun, thicket, changed} {
			for _, b := range bytes[:min(200, len(bytes))] {
				p := api.Pick{Worker: int(b & 3), Victim: int(b >> 2 & 3), Half: b&16 != 0}
				if b > 250 {
					p.Worker, p.Victim = number, fuel
				}
				w = wantDo(t, w, p, stepped(w, p))
			}
		}
	})
}
