package step_test

import (
	"fmt"
	"math"
	"slices"
	"testing"
	"transhumance/api"
	"transhumance/ring"
	"transhumance/seed"
	"transhumance/step"
)

// one is a world of three workers with a single frame, of function 0 at that place, which the second worker executes.
func one(t *testing.T, lines string, pc int, stack ...api.Value) api.World {
	t.Helper()
	w := begun(t, lines, 3, common)
	w.Cur[0], w.Cur[1] = noRef, w.Root
	f := &w.Pen.Cells[0].Frame
	f.Pc, f.Stack = pc, stack
	w.Used = 10
	return w
}

// second is the step of the second worker, whose victim does not matter as long as it has a frame.
var second = api.Pick{Worker: 1, Victim: 2, Half: true}

// P14.2: what goes on is stored, and uses one instruction.
func TestGo(t *testing.T) {
	a, b := api.Value{Re: 3, Im: 4}, api.Value{Re: 5, Im: 6}
	drawn := seed.Draw(7, 0)
	for _, c := range []struct {
		lines  string
		stack  []api.Value
		change func(f *api.Frame)
	}{
		{"push 1 2", nil, func(f *api.Frame) { f.Stack = []api.Value{{Re: 1, Im: 2}} }},
		{"load 1", nil, func(f *api.Frame) { f.Stack = []api.Value{{Re: 9}} }},
		{"store 0", []api.Value{a, b}, func(f *api.Frame) { f.Stack, f.Locals[0] = []api.Value{a}, b }},
		{"add", []api.Value{a, b}, func(f *api.Frame) { f.Stack = []api.Value{{Re: 8, Im: 10}} }},
		{"sub", []api.Value{b, a}, func(f *api.Frame) { f.Stack = []api.Value{{Re: 2, Im: 2}} }},
		{"mul", []api.Value{a, b}, func(f *api.Frame) { f.Stack = []api.Value{{Re: 242, Im: 38}} }},
		{"div", []api.Value{{Re: 242, Im: 38}, b}, func(f *api.Frame) { f.Stack = []api.Value{a} }},
		{"conj", []api.Value{a}, func(f *api.Frame) { f.Stack = []api.Value{{Re: 3, Im: 247}} }},
		{"dup", []api.Value{a}, func(f *api.Frame) { f.Stack = []api.Value{a, a} }},
		{"drop", []api.Value{a, b}, func(f *api.Frame) { f.Stack = []api.Value{a} }},
		{"jump 3", []api.Value{a}, func(f *api.Frame) { f.Pc = 3 }},
		{"zero 3", []api.Value{a, {}}, func(f *api.Frame) { f.Stack, f.Pc = []api.Value{a}, 3 }},
		{"zero 3", []api.Value{a, b}, func(f *api.Frame) { f.Stack = []api.Value{a} }},
		{"rand", nil, func(f *api.Frame) { f.Stack, f.Draws = []api.Value{drawn}, 1 }},
		{"join 1", []api.Value{a}, func(f *api.Frame) { f.Stack, f.Slots[1] = []api.Value{a, b}, api.Slot{} }},
	} {
		w := one(t, "func 0 2 2; trap 99; "+c.lines+"; trap 50; trap 60", 1, c.stack...)
		f := &w.Pen.Cells[0].Frame
		f.Locals[1] = api.Value{Re: 9}
		f.Slots[1] = api.Slot{State: done, Kid: noRef, Out: api.Out{V: b}}
		for _, p := range picks(1, 0, 1, 2, 3, -1) {
			wantChange(t, w, p, func(is *api.World) {
				is.Used = 11
				is.Pen.Cells[0].Frame.Pc = 2
				c.change(&is.Pen.Cells[0].Frame)
			})
		}
		for _, worker := range []int{0, 2} {
			wantMissed(t, w, api.Pick{Worker: worker, Victim: 1}) // the frame is the second worker's alone
		}
	}
}

// P14.2: a frame that is not ready, or of a function that there is not, is left as it is, and no fuel is asked for.
func TestNone(t *testing.T) {
	for _, used := range []int{0, 49, 50, 51, math.MaxInt} {
		w := one(t, "func 0 0 1; join 0; ret", 0)
		w.Used = used
		f := &w.Pen.Cells[0].Frame
		for _, f.State = range append([]int{waits, ends, 3}, far...) {
			wantKept(t, w, second)
		}
		f.State = ready
		for _, f.Fn = range append([]int{1, 2}, far...) {
			wantKept(t, w, second)
		}
		f.Fn = 0
		w.Prog = nil
		wantKept(t, w, second)
	}
}

// P14.2: a frame that has to wait is stored, and the worker is without one; this uses no instruction, and needs no fuel.
func TestWait(t *testing.T) {
	for slot := range 3 {
		for _, used := range []int{-1, 0, 49, 50, 51, math.MaxInt} {
			w := one(t, "func 0 0 3; trap 50; join "+fmt.Sprint(slot)+"; ret", 1, api.Value{Re: 3})
			w.Used = used
			w.Rings[1] = holds(4, 5)
			w.Pen.Cells[0].Frame.Slots[slot] = api.Slot{State: busy, Kid: api.Ref{At: 8}}
			got := wantChange(t, w, second, func(is *api.World) {
				is.Cur[1] = noRef
				f := &is.Pen.Cells[0].Frame
				f.State, f.Wait = waits, slot
			})
			wantChange(t, got, second, func(is *api.World) { is.Cur[1], is.Rings[1].Many = refs(5)[0], 1 })
		}
	}
}

// P14.2: the edge of the fuel, for all that uses an instruction.
func TestFuel(t *testing.T) {
	for _, lines := range []string{"push 1 2; ret", "spawn 0 0; trap 50", "trap 50", "rand; ret", "join 0; ret", "jump 0", "spawn 1 1; trap 50"} {
		for _, c := range []struct {
			used, fuel int
			goes       bool
		}{
			{0, 1, true}, {49, 50, true}, {50, 51, true}, {99999, 100000, true}, {-1, 0, true}, {math.MinInt, math.MinInt + 1, true}, {math.MinInt, math.MaxInt, true}, {math.MaxInt - 1, math.MaxInt, true}, {0, math.MaxInt, true},
			{1, 1, false}, {50, 50, false}, {51, 50, false}, {100000, 100000, false}, {0, 0, false}, {0, -1, false}, {math.MaxInt, math.MaxInt, false}, {math.MinInt, math.MinInt, false}, {math.MaxInt, math.MinInt, false}, {1 << 32, 1, false},
		} {
			w := one(t, "func 0 0 2; "+lines+"; func 0 0 0; trap 60", 0)
			w.Used, w.Limits.Fuel = c.used, c.fuel
			if !c.goes {
				wantStop(t, w, second, errFuel)
				continue
			}
			if got := step.Do(w, second); got.Used != c.used+1 || got.State == stops {
				t.Errorf("%s: %s", lines, told(got))
			}
		}
	}
}

// P14.2: a child is laid into the pen and into the worker's ring; the slot has it as its Kid.
func TestSpawn(t *testing.T) {
	a, b, c := api.Value{Re: 1, Im: 2}, api.Value{Re: 3, Im: 4}, api.Value{Re: 5, Im: 6}
	for slot := range 3 {
		w := one(t, "func 0 0 3; trap 50; spawn 1 "+fmt.Sprint(slot)+"; trap 60; func 2 4 2; load 0; ret", 1, a, b, c)
		w.Pen.Cells[0].Frame.Spawned = 6
		w.Rings[1] = api.Ring{Buf: refs(8, 9, -9), Head: 1, Many: 1, Most: 4}
		w.Rings[2] = holds(5, 6)
		child := api.Frame{
			Fn: 1, Locals: []api.Value{b, c, {}, {}}, Slots: make([]api.Slot, 2), Seed: seed.Child(7, 6), UpSlot: slot,
		}
		for _, p := range picks(1, 0, 1, 2, 3) {
			wantChange(t, w, p, func(is *api.World) {
				is.Used = 11
				is.Pen.Cells = append(is.Pen.Cells, api.Cell{Used: true, Frame: child})
				f := &is.Pen.Cells[0].Frame
				f.Pc, f.Stack, f.Spawned = 2, []api.Value{a}, 7
				f.Slots[slot] = api.Slot{State: busy, Kid: api.Ref{At: 1}}
				is.Rings[1].Buf[2], is.Rings[1].Many = api.Ref{At: 1}, 2
			})
		}
	}
}

// P14.2: the child's place is the pen's choice, with its generation; its Up is the worker's Cur, with that one's.
func TestSpawnPlace(t *testing.T) {
	w := one(t, "func 0 0 1; spawn 1 0; trap 60; func 0 0 0; trap 70", 0)
	w.Pen.Cells = append([]api.Cell{{Gen: 3}, {Gen: lastGen, Frame: api.Frame{Fn: 99}}}, w.Pen.Cells[0], api.Cell{Gen: 4})
	w.Pen.Cells[2].Gen = lastGen
	w.Cur[1] = api.Ref{At: 2, Gen: lastGen}
	for _, free := range [][]int{{0, 1, 3}, {3, 0, 1}, {0, 3, 1}, {1, 3, 0}, {1, 0, 3}} {
		w.Pen.Free = free
		at := free[2]
		r := api.Ref{At: at, Gen: w.Pen.Cells[at].Gen}
		wantChange(t, w, second, func(is *api.World) {
			is.Used = 11
			is.Pen.Free = free[:2]
			is.Pen.Cells[at] = api.Cell{Gen: r.Gen, Used: true, Frame: api.Frame{Fn: 1, Seed: seed.Child(7, 0), Up: w.Cur[1]}}
			f := &is.Pen.Cells[2].Frame
			f.Pc, f.Spawned, f.Slots[0] = 1, 1, api.Slot{State: busy, Kid: r}
			is.Rings[1].Buf[0], is.Rings[1].Many = r, 1
		})
	}
}

// P14.2: the worker's ring grows, up to its limit; then the world stops.
func TestSpawnRing(t *testing.T) {
	w := begun(t, "func 0 0 8; spawn 1 0; spawn 1 1; spawn 1 2; spawn 1 3; spawn 1 4; spawn 1 5; spawn 1 6; trap 60; func 0 0 0; trap 70", 1, api.Limits{Fuel: 50, Frames: 50, Ring: 6})
	var is []api.Ref
	for n, room := range []int{1, 2, 4, 4, 6, 6} {
		w = step.Do(w, api.Pick{})
		is = append(is, api.Ref{At: n + 1})
		if r := w.Rings[0]; !slices.Equal(ring.Items(r), is) || len(r.Buf) != room || w.Used != n+1 {
			t.Errorf("%d children: %+v", n+1, r)
		}
	}
	wantStop(t, w, api.Pick{}, errFull)
	w.Rings[0].Most = 7
	wantGo(t, w)
}

// P14.2: the errors with which a spawn stops the world.
func TestSpawnStops(t *testing.T) {
	spawn := func() api.World {
		w := one(t, "func 0 0 3; spawn 1 0; trap 60; func 1 1 0; trap 70", 0, api.Value{Re: 1})
		w.Rings[2] = holds(5)
		return w
	}
	wantStopped := func(e api.Errno, spoil func(w *api.World)) {
		t.Helper()
		w := spawn()
		spoil(&w)
		for _, p := range picks(1, 0, 1, 2, -1) {
			wantStop(t, w, p, e)
		}
	}
	if got := step.Do(spawn(), second); got.Used != 11 || got.State != runs {
		t.Errorf("%s", told(got))
	}
	wantStopped(errArg, func(w *api.World) { w.Prog[1].Locals = 0 })                                               // Arity above Locals
	wantStopped(errArg, func(w *api.World) { w.Prog[1].Slots = 9 })                                                // the program is not valid
	wantStopped(errArg, func(w *api.World) { w.Prog[1].Code = nil })                                               // nor this one
	wantStopped(errArg, func(w *api.World) { w.Prog = append(w.Prog, api.Func{}) })                                // nor this one, though no child is of its function
	wantStopped(errArg, func(w *api.World) { w.Prog[0].Code[1].A = 3 })                                            // nor this one, though it is safe as far as it goes
	wantStopped(errArg, func(w *api.World) { w.Pen.Cells[0].Frame.Stack[0].Re = 251 })                             // an argument that is none
	wantStopped(errArg, func(w *api.World) { w.Pen.Cells[0].Frame.Stack[0].Im = -1 })                              // nor this one
	wantStopped(errFrames, func(w *api.World) { w.Pen.Most = 1 })                                                  // no place
	wantStopped(errFull, func(w *api.World) { w.Rings[1] = api.Ring{Buf: refs(8), Many: 1, Most: 1} })             // no room
	wantStopped(errFull, func(w *api.World) { w.Rings[1] = api.Ring{Buf: refs(8, 9), Head: 1, Many: 2, Most: 2} }) // nor here
	wantStopped(errFuel, func(w *api.World) { w.Used = 50 })
	wantStopped(errFuel, func(w *api.World) { w.Used, w.Prog[1].Slots, w.Pen.Most = 50, 9, 1 }) // ahead of all others
	for _, bad := range notValid() {
		wantStopped(errArg, func(w *api.World) { w.Rings[1] = bad })
		wantStopped(errFrames, func(w *api.World) { w.Rings[1], w.Pen.Most = bad, 1 })
		wantStopped(errFuel, func(w *api.World) { w.Rings[1], w.Used = bad, 50 })
	}
	full := api.Ring{Buf: refs(8), Many: 1, Most: 1}
	wantStopped(errFrames, func(w *api.World) { w.Rings[1], w.Pen.Most = full, 1 })
	wantStopped(errArg, func(w *api.World) { w.Rings[1], w.Prog[1].Slots = full, 9 })
	wantStopped(errArg, func(w *api.World) { w.Pen.Most, w.Prog[1].Slots = 1, 9 })
	for _, s := range []int{-1, lastGen + 1, math.MinInt, math.MaxInt} { // of what is no seed, 0 is made, which is one
		w := spawn()
		w.Pen.Cells[0].Frame.Seed = s
		if got := step.Do(w, second); got.State != runs || got.Pen.Cells[1].Frame.Seed != 0 {
			t.Errorf("seed %d: %s", s, told(got))
		}
	}
}

// P14.2: a pen with as many frames as it may have.
func TestSpawnFrames(t *testing.T) {
	for _, most := range []int{1, 2, 3, 7, 8, 100, maxFrames} {
		w := begun(t, "func 0 0 1; spawn 0 0; jump 2; trap 60", 1, api.Limits{Fuel: 50, Frames: most, Ring: 2})
		for len(w.Pen.Cells) < most-1 {
			w.Pen.Cells = append(w.Pen.Cells, w.Pen.Cells[0])
		}
		if most > 1 {
			wantGo(t, w)
			w = step.Do(w, api.Pick{})
			w.Cur[0].At = most - 1
		}
		wantStop(t, w, api.Pick{}, errFrames)
		w.Pen.Cells[0].Used, w.Pen.Free = false, []int{0}
		if most > 1 {
			wantGo(t, w)
		}
	}
}

// P14.2: traps end a frame, also those of frames that no safe program leads to.
func TestTraps(t *testing.T) {
	for _, c := range []struct {
		trap  int
		lines string
		stack int
	}{
		{1, "push 0 0; trap 50; div", 2}, {2, "spawn 0 0; trap 50; spawn 0 1", 0}, {2, "trap 50; trap 50; join 0", 0}, {3, "trap 50; trap 50; add", 1}, {3, "trap 50; trap 50; rand", 16}, {3, "trap 50; trap 50; ret", 0},
		{4, "trap 50; trap 50; load 0", 0}, {4, "trap 50; trap 50; spawn 1 0", 0}, {4, "trap 50; trap 50; join 2", 0}, {4, "trap 50; trap 50", 0}, {77, "trap 50; trap 50; trap 77", 0}, {255, "trap 50; trap 50; trap 255", 16}, {40, "trap 50; trap 50; join 1", 0},
	} {
		w := one(t, "func 0 0 2; "+c.lines, 2, make([]api.Value, c.stack)...)
		w.Pen.Cells[0].Frame.Slots[1] = api.Slot{State: done, Kid: noRef, Out: api.Out{Trap: 40}}
		wantChange(t, w, second, func(is *api.World) {
			is.Used, is.State, is.Out, is.Cur[1] = 11, over, api.Out{Trap: c.trap}, noRef
			is.Pen.Cells[0], is.Pen.Free = api.Cell{Gen: 1}, []int{0}
		})
	}
}
