package step_test

import (
	"math"
	"slices"
	"testing"
	"transhumance/api"
	"transhumance/step"
)

// P14.2, P14.3: the first task's end is the world's.
func TestEnd(t *testing.T) {
	v := api.Value{Re: 3, Im: 4}
	w := one(t, "func 0 0 3; trap 50; ret", 1, api.Value{Re: 9}, v)
	w.Rings[2] = holds(5)
	w.Out, w.Err = api.Out{Trap: 9}, errFull // of no account by now
	ended := func(is *api.World, out api.Out) {
		is.Used, is.State, is.Out, is.Cur[1] = 11, over, out, noRef
		is.Pen.Cells[0], is.Pen.Free = api.Cell{Gen: 1}, []int{0}
	}
	wantChange(t, w, second, func(is *api.World) { ended(is, api.Out{V: v}) })
	w.Pen.Cells[0].Frame.UpSlot = 5 // its slot is of no account without an Up
	wantChange(t, w, second, func(is *api.World) { ended(is, api.Out{V: v}) })
	w.Root = api.Ref{At: 77} // nor is Root
	wantChange(t, w, second, func(is *api.World) { ended(is, api.Out{V: v}) })
	slots := w.Pen.Cells[0].Frame.Slots
	slots[2] = api.Slot{State: done, Kid: noRef, Out: api.Out{Trap: 40}}
	wantChange(t, w, second, func(is *api.World) { ended(is, api.Out{Trap: 40}) })
	slots[1] = api.Slot{State: done, Kid: noRef, Out: api.Out{Trap: 41}}
	slots[0] = api.Slot{State: done, Kid: noRef, Out: api.Out{V: v}}
	got := wantChange(t, w, second, func(is *api.World) { ended(is, api.Out{Trap: 41}) })
	for _, p := range slices.Concat(picks(0, 0, 1, 2), picks(1, 0, 1, 2), picks(2, 0, 1, 2)) {
		wantKept(t, got, p)
	}
	slots[0] = api.Slot{State: busy, Kid: api.Ref{At: 5}} // a child is under way
	wantChange(t, w, second, func(is *api.World) {
		is.Used, is.Cur[1] = 11, noRef
		f := &is.Pen.Cells[0].Frame
		f.State, f.Out, f.Stack = ends, api.Out{V: v}, f.Stack[:1]
	})
}

// P14.3: a generation begins anew behind the last one.
func TestEndGeneration(t *testing.T) {
	w := one(t, "func 0 0 0; trap 50", 0)
	w.Pen.Cells[0].Gen, w.Cur[1].Gen = lastGen, lastGen
	wantChange(t, w, second, func(is *api.World) {
		is.Used, is.State, is.Out, is.Cur[1] = 11, over, api.Out{Trap: 50}, noRef
		is.Pen.Cells[0], is.Pen.Free = api.Cell{}, []int{0}
	})
}

// family is a world in which the second worker executes the child of the slot 1 of a task in cell 0, a child that is about to return 8+9i.
func family(t *testing.T, state int) api.World {
	t.Helper()
	w := begun(t, "func 0 0 3; join 1; ret; func 0 0 2; ret", 3, common)
	w.Cur[0], w.Cur[1] = noRef, api.Ref{At: 1, Gen: 6}
	w.Rings[1] = holds(5)
	w.Used = 10
	up := &w.Pen.Cells[0].Frame
	up.State = state
	up.Slots[1] = api.Slot{State: busy, Kid: w.Cur[1]}
	child := api.Frame{Fn: 1, Stack: []api.Value{{Re: 8, Im: 9}}, Slots: make([]api.Slot, 2), Up: w.Root, UpSlot: 1}
	w.Pen.Cells = append(w.Pen.Cells, api.Cell{Gen: 6, Used: true, Frame: child})
	return w
}

// gone is what becomes of the world of a family when the child has ended.
func gone(is *api.World) {
	is.Used, is.Cur[1] = 11, noRef
	is.Pen.Cells[1], is.Pen.Free = api.Cell{Gen: 7}, []int{1}
}

// given is what its slot has then.
var given = api.Slot{State: done, Kid: noRef, Out: api.Out{V: api.Value{Re: 8, Im: 9}}}

// P14.3: a task that waits for the child is ready then, and the worker goes on with it.
func TestEndWakes(t *testing.T) {
	w := family(t, waits)
	w.Pen.Cells[0].Frame.Wait = 1
	got := wantChange(t, w, second, func(is *api.World) {
		gone(is)
		f := &is.Pen.Cells[0].Frame
		f.State, f.Wait, f.Slots[1] = ready, 0, given
		is.Cur[1] = w.Root
	})
	got = wantChange(t, got, second, func(is *api.World) {
		is.Used = 12
		f := &is.Pen.Cells[0].Frame
		f.Pc, f.Slots[1], f.Stack = 1, api.Slot{}, []api.Value{{Re: 8, Im: 9}}
	})
	if got = step.Do(got, second); got.State != over || got.Out != given.Out || got.Used != 13 || !slices.Equal(got.Pen.Free, []int{1, 0}) {
		t.Errorf("%s", told(got))
	}
}

// P14.3: a task that is ready, or that waits for another child, has the end in its slot, and the worker has nothing.
func TestEndGives(t *testing.T) {
	for _, wait := range []int{0, 2, 3, -1, 1 << 32} {
		w := family(t, waits)
		w.Pen.Cells[0].Frame.Wait = wait
		wantChange(t, w, second, func(is *api.World) {
			gone(is)
			is.Pen.Cells[0].Frame.Slots[1] = given
		})
	}
	for _, state := range append([]int{ready, 3}, far...) {
		w := family(t, state)
		w.Pen.Cells[0].Frame.Wait = 1 // of no account
		got := wantChange(t, w, second, func(is *api.World) {
			gone(is)
			is.Pen.Cells[0].Frame.Slots[1] = given
		})
		wantChange(t, got, second, func(is *api.World) { is.Cur[1], is.Rings[1].Many = refs(5)[0], 0 })
	}
}

// P14.3: a trap of the child, and of a child of the child that was not joined, is what is given.
func TestEndGivesTraps(t *testing.T) {
	for _, c := range []struct {
		left []int // the traps in the child's slots
		trap int
		code string
	}{
		{[]int{0, 0}, 77, "trap 77"}, {[]int{40, 41}, 77, "trap 77"}, {[]int{40, 41}, 40, "ret"}, {[]int{0, 41}, 41, "ret"}, {[]int{40, 41}, 1, "div"}, {[]int{40, 41}, 3, "rand; ret"},
	} {
		w := family(t, waits)
		w.Pen.Cells[0].Frame.Wait = 1
		w.Prog = parsed(t, "func 0 0 3; join 1; ret; func 0 0 2; "+c.code)
		f := &w.Pen.Cells[1].Frame
		f.Stack = make([]api.Value, 2)
		if c.trap == 3 {
			f.Stack = make([]api.Value, 16)
		}
		for slot, trap := range c.left {
			f.Slots[slot] = api.Slot{State: done, Kid: noRef, Out: api.Out{Trap: trap}}
		}
		wantChange(t, w, second, func(is *api.World) {
			gone(is)
			f := &is.Pen.Cells[0].Frame
			f.State, f.Wait, f.Slots[1] = ready, 0, api.Slot{State: done, Kid: noRef, Out: api.Out{Trap: c.trap}}
			is.Cur[1] = w.Root
		})
	}
}

// P14.3: an end is given to nobody if Up has no frame, and to no slot if there is none that is busy; the child is dropped all the same.
func TestEndUnknown(t *testing.T) {
	for _, state := range []int{ready, waits} {
		for _, up := range []api.Ref{{At: -1, Gen: 1}, {At: -2}, {Gen: 1}, {Gen: -1}, {At: 1, Gen: 7}, {At: 1, Gen: 6}, {At: 2}, {At: 2, Gen: 3}, {At: 3}, {At: math.MaxInt}, {At: math.MinInt}, {At: 1 << 32}, {Gen: 1 << 32}} {
			w := family(t, state)
			w.Pen.Cells = append(w.Pen.Cells, api.Cell{Gen: 3})
			w.Pen.Free = []int{2}
			w.Pen.Cells[0].Frame.Wait = 1
			w.Pen.Cells[1].Frame.Up = up
			wantChange(t, w, second, func(is *api.World) {
				gone(is)
				is.Pen.Free = []int{2, 1}
			})
		}
		for _, slot := range append([]int{0, 2, 3, 8}, far...) {
			w := family(t, state)
			w.Pen.Cells[0].Frame.Wait = slot
			w.Pen.Cells[0].Frame.Slots[2] = api.Slot{State: done, Kid: noRef, Out: api.Out{Trap: 9}}
			w.Pen.Cells[1].Frame.UpSlot = slot
			wantChange(t, w, second, gone)
		}
	}
}

// P14.3: a task that has ended is closed with its last child, and the one above it is given its end in turn.
func TestEndCloses(t *testing.T) {
	w := family(t, ends)
	f := &w.Pen.Cells[0].Frame
	f.Out = api.Out{V: api.Value{Re: 1}}
	both := func(out api.Out) {
		t.Helper()
		wantChange(t, w, second, func(is *api.World) {
			gone(is)
			is.Pen.Cells[0], is.Pen.Free = api.Cell{Gen: 1}, []int{1, 0}
			is.State, is.Out = over, out
		})
	}
	both(api.Out{V: api.Value{Re: 1}})
	f.Out = api.Out{Trap: 33}
	both(api.Out{Trap: 33})
	f.Out = api.Out{V: api.Value{Re: 1}}
	w.Prog = parsed(t, "func 0 0 3; join 1; ret; func 0 0 2; trap 40")
	both(api.Out{Trap: 40})
	f.Slots[0] = api.Slot{State: done, Kid: noRef, Out: api.Out{Trap: 39}}
	both(api.Out{Trap: 39})
	f.Slots[0] = api.Slot{State: busy, Kid: api.Ref{At: 7}} // another child is under way
	wantChange(t, w, second, func(is *api.World) {
		gone(is)
		is.Pen.Cells[0].Frame.Slots[1] = api.Slot{State: done, Kid: noRef, Out: api.Out{Trap: 40}}
	})
}

// P14.3: a task that has ended is closed also if it could be given nothing.
func TestEndClosesUngiven(t *testing.T) {
	for _, slot := range []int{0, 2, 3, -1} {
		w := family(t, ends)
		w.Pen.Cells[0].Frame.Slots[1] = api.Slot{}
		w.Pen.Cells[0].Frame.Out = api.Out{Trap: 20}
		w.Pen.Cells[1].Frame.UpSlot = slot
		wantChange(t, w, second, func(is *api.World) {
			gone(is)
			is.Pen.Cells[0], is.Pen.Free = api.Cell{Gen: 1}, []int{1, 0}
			is.State, is.Out = over, api.Out{Trap: 20}
		})
	}
}

// chain is a world of that many frames of which each is the child of the one below in the pen; all but the last one have ended and wait for their child's end. The second worker executes the last one, which returns 8+9i.
func chain(t *testing.T, many int) api.World {
	t.Helper()
	w := begun(t, "func 0 0 1; spawn 0 0; ret", 2, api.Limits{Fuel: 50, Frames: maxFrames, Ring: 9})
	w.Cur[0], w.Cur[1] = noRef, api.Ref{At: many - 1}
	w.Pen.Cells = nil
	for at := range many {
		f := api.Frame{Pc: 1, State: ends, Out: api.Out{V: api.Value{Re: at % 251}}, Up: api.Ref{At: at - 1}}
		f.Slots = []api.Slot{{State: busy, Kid: api.Ref{At: at + 1}}}
		if at == many-1 {
			f.State, f.Out, f.Slots[0], f.Stack = ready, api.Out{}, api.Slot{}, []api.Value{{Re: 8, Im: 9}}
		}
		w.Pen.Cells = append(w.Pen.Cells, api.Cell{Used: true, Frame: f})
	}
	return w
}

// P14.3: frames are closed one after the other, up to the one that goes on, that has another child, or that is the first.
func TestEndClosesUpwards(t *testing.T) {
	for _, many := range []int{1, 2, 3, 10, 100} {
		for _, top := range []int{-1, 0, 1, many / 2, many - 3, many - 2} {
			if top >= many-1 || top < -1 {
				continue
			}
			for state := range 4 {
				wantChain(t, chain(t, many), top, state)
			}
		}
	}
	wantChain(t, chain(t, maxFrames), -1, ready)
	wantChain(t, chain(t, maxFrames), 1, waits)
}

// wantChain: all frames above the one in the cell top are closed; that one has that state, or has another child if the state is that of its end. There is none if top is -1.
func wantChain(t *testing.T, w api.World, top, state int) {
	t.Helper()
	end := api.Out{V: api.Value{Re: 8, Im: 9}}
	if many := len(w.Pen.Cells); many > 1 {
		end = w.Pen.Cells[top+1].Frame.Out
		if top+1 == many-1 {
			end = api.Out{V: api.Value{Re: 8, Im: 9}}
		}
	}
	if top >= 0 {
		f := &w.Pen.Cells[top].Frame
		f.State = state
		f.Slots = append(f.Slots, api.Slot{State: busy, Kid: api.Ref{At: 5000}})
	}
	wantChange(t, w, api.Pick{Worker: 1}, func(is *api.World) {
		is.Used, is.Cur[1] = 1, noRef
		for at := len(w.Pen.Cells) - 1; at > top; at-- {
			is.Pen.Cells[at] = api.Cell{Gen: 1}
			is.Pen.Free = append(is.Pen.Free, at)
		}
		if top < 0 {
			is.State, is.Out = over, end
			return
		}
		f := &is.Pen.Cells[top].Frame
		f.Slots[0] = api.Slot{State: done, Kid: noRef, Out: end}
		if state == waits {
			f.State = ready
			is.Cur[1] = api.Ref{At: top}
		}
	})
}

// P14.3, R1: frames that are above each other or above themselves.
func TestEndRound(t *testing.T) {
	for many := 1; many < 20; many++ {
		w := chain(t, many)
		w.Pen.Cells[0].Frame.Up = w.Cur[1]
		wantChange(t, w, api.Pick{Worker: 1}, func(is *api.World) {
			is.Used, is.Cur[1] = 1, noRef
			for at := many - 1; at >= 0; at-- {
				is.Pen.Cells[at] = api.Cell{Gen: 1}
				is.Pen.Free = append(is.Pen.Free, at)
			}
		})
	}
	w := chain(t, 1)
	w.Pen.Cells[0].Frame.Up = api.Ref{}
	w.Pen.Cells[0].Frame.Slots[0] = api.Slot{State: busy}
	wantChange(t, w, api.Pick{Worker: 1}, func(is *api.World) {
		is.Used, is.Cur[1] = 1, noRef
		f := &is.Pen.Cells[0].Frame
		f.State, f.Out, f.Stack = ends, api.Out{V: api.Value{Re: 8, Im: 9}}, nil
	})
}
