package step_test

import (
	"math"
	"slices"
	"testing"
	"transhumance/api"
	"transhumance/ring"
	"transhumance/step"
)

// P14.1: a worker takes the bottom of its own ring, whoever the victim is.
func TestTake(t *testing.T) {
	w := idle(holds(1, 2, 3), holds(4), holds(5, 6), api.Ring{Buf: refs(8, 9), Head: 1, Many: 2, Most: 2})
	for worker, bottom := range []int{3, 4, 6, 8} {
		for _, p := range picks(worker, append([]int{0, 1, 2, 3, 4}, far...)...) {
			wantChange(t, w, p, func(is *api.World) {
				is.Cur[worker] = refs(bottom)[0]
				is.Rings[worker].Many--
			})
		}
	}
}

// P14.1: a worker takes all that is in its own ring, the bottom first, and finds nothing then.
func TestTakeAll(t *testing.T) {
	w := idle(holds(), holds(4, 5, 6, 7))
	for _, at := range []int{7, 6, 5, 4} {
		if w = step.Do(w, api.Pick{Worker: 1}); w.Cur[1] != refs(at)[0] || w.Steals != 5 || w.Misses != 7 {
			t.Errorf("%s, want %d", told(w), at)
		}
		w.Cur[1] = noRef
	}
	wantMissed(t, w, api.Pick{Worker: 1})
}

// P14.1: an item is taken whatever it is; only At -1 with Gen 0 leaves the worker without a frame.
func TestTakeAnything(t *testing.T) {
	for _, at := range append([]int{0, 1}, far...) {
		for _, gen := range append([]int{0, 1}, far...) {
			r := api.Ref{At: at, Gen: gen}
			one := api.Ring{Buf: []api.Ref{r}, Many: 1, Most: 1}
			wantChange(t, idle(one, holds()), api.Pick{}, func(is *api.World) { is.Cur[0], is.Rings[0].Many = r, 0 })
			for _, p := range picks(1, 0) {
				wantChange(t, idle(one, holds()), p, func(is *api.World) { is.Cur[1], is.Rings[0].Many, is.Steals = r, 0, 6 })
			}
			w := idle(one, holds())
			w.Cur[0] = r
			if r == noRef {
				wantChange(t, w, api.Pick{}, func(is *api.World) { is.Rings[0].Many = 0 })
			} else {
				wantKept(t, w, api.Pick{}) // there is no frame of that ref
			}
		}
	}
}

// P14.1: a worker without anything takes the top of the victim's ring.
func TestSteal(t *testing.T) {
	w := idle(holds(), holds(1, 2, 3), api.Ring{Buf: refs(8, 9), Head: 1, Many: 2, Most: 2}, holds(4))
	for victim, top := range []int{0, 1, 9, 4} {
		p := api.Pick{Victim: victim}
		if victim == 0 {
			wantMissed(t, w, p)
			continue
		}
		wantChange(t, w, p, func(is *api.World) {
			is.Cur[0] = refs(top)[0]
			is.Steals++
			r := &is.Rings[victim]
			r.Head = (r.Head + 1) % len(r.Buf)
			r.Many--
		})
	}
}

// P14.1: which ring is that of a victim: it needs no Cur, and is not the worker's own.
func TestVictims(t *testing.T) {
	w := idle(holds(), holds(1, 2, 3), holds(), holds(4))
	w.Cur = w.Cur[:3] // the last ring is nobody's
	for _, half := range []bool{false, true} {
		for worker := range 3 {
			if worker == 1 {
				continue
			}
			for _, victim := range append([]int{0, 2, 4, 5, 63, 64}, far...) {
				wantMissed(t, w, api.Pick{Worker: worker, Victim: victim, Half: half})
			}
			wantChange(t, w, api.Pick{Worker: worker, Victim: 3, Half: half}, func(is *api.World) {
				is.Cur[worker], is.Steals = refs(4)[0], 6
				is.Rings[3].Many, is.Rings[3].Head = 0, (is.Rings[3].Head+1)%2
			})
		}
		for _, worker := range []int{3, 4, -1} {
			for victim := range 4 {
				wantKept(t, w, api.Pick{Worker: worker, Victim: victim, Half: half})
			}
		}
	}
	w = idle(holds(), holds(1))
	w.Cur = append(w.Cur, refs(1)[0], noRef) // more Cur than rings
	for _, p := range slices.Concat(picks(2, 0, 1, 2, 3), picks(3, 0, 1, 2, 3)) {
		wantKept(t, w, p)
	}
	for _, p := range picks(0, 2, 3) {
		wantMissed(t, w, p)
	}
	wantMissed(t, idle(holds()), api.Pick{}) // a worker that is alone
	wantMissed(t, idle(holds()), api.Pick{Half: true})
}

// P14.1: a worker that takes half has the first ref as its own frame, and the others in its ring, the first one at the top.
func TestHalf(t *testing.T) {
	for _, c := range []struct {
		mine, victim api.Ring // ahead of the step
		cur          int
		isMine, is   api.Ring // behind it
	}{
		{
			api.Ring{Buf: refs(0), Most: 9}, api.Ring{Buf: refs(1, 2, 3, 4, 5), Many: 5, Most: 9}, 1,
			api.Ring{Buf: []api.Ref{{At: 2, Gen: 102}, {At: 3, Gen: 103}}, Many: 2, Most: 9}, api.Ring{Buf: refs(1, 2, 3, 4, 5), Head: 3, Many: 2, Most: 9},
		},
		{
			api.Ring{Buf: refs(-1, -2, -3), Head: 2, Most: 9}, api.Ring{Buf: refs(3, 4, 1, 2), Head: 2, Many: 4, Most: 4}, 1,
			api.Ring{Buf: refs(-1, -2, 2), Head: 2, Many: 1, Most: 9}, api.Ring{Buf: refs(3, 4, 1, 2), Many: 2, Most: 4},
		},
		{
			api.Ring{Buf: refs(-1, -2, -3), Head: 2, Most: 3}, api.Ring{Buf: refs(7, 0, 1, 2, 3, 4, 5, 6), Head: 1, Many: 8, Most: 9}, 0,
			api.Ring{Buf: refs(2, 3, 1), Head: 2, Many: 3, Most: 3}, api.Ring{Buf: refs(7, 0, 1, 2, 3, 4, 5, 6), Head: 5, Many: 4, Most: 9},
		},
		{
			api.Ring{Buf: refs(-1, -2), Head: 1, Most: 3}, api.Ring{Buf: refs(0, 1, 2, 3, 4, 5, 6), Many: 7, Most: 9}, 0,
			api.Ring{Buf: refs(1, 2, 3), Many: 3, Most: 3}, api.Ring{Buf: refs(0, 1, 2, 3, 4, 5, 6), Head: 4, Many: 3, Most: 9},
		},
		{
			api.Ring{Buf: refs(-1), Most: 1}, api.Ring{Buf: refs(5), Many: 1, Most: 1}, 5,
			api.Ring{Buf: refs(-1), Most: 1}, api.Ring{Buf: refs(5), Most: 1},
		},
		{
			api.Ring{Buf: refs(-1), Most: 1}, api.Ring{Buf: refs(5, 6), Many: 2, Most: 9}, 5,
			api.Ring{Buf: refs(-1), Most: 1}, api.Ring{Buf: refs(5, 6), Head: 1, Many: 1, Most: 9},
		},
		{
			api.Ring{Buf: refs(-1), Most: 1}, api.Ring{Buf: refs(5, 6, 7), Many: 3, Most: 9}, 5,
			api.Ring{Buf: refs(6), Many: 1, Most: 1}, api.Ring{Buf: refs(5, 6, 7), Head: 2, Many: 1, Most: 9},
		},
	} {
		w := idle(holds(), c.mine, c.victim)
		wantChange(t, w, api.Pick{Worker: 1, Victim: 2, Half: true}, func(is *api.World) {
			is.Cur[1], is.Rings[1], is.Rings[2], is.Steals = refs(c.cur)[0], c.isMine, c.is, 6
		})
	}
}

// P14.1: for all small rings: half goes if there is room for it, and nothing otherwise.
func TestHalfRoom(t *testing.T) {
	full := 0
	for many := range 20 {
		for most := 1; most < 10; most++ {
			for room := 1; room <= most; room++ {
				var all []int
				for at := range many {
					all = append(all, at)
				}
				victim := holds(all...)
				victim.Most = 1024
				mine := api.Ring{Buf: refs(make([]int, room)...), Head: room - 1, Most: most}
				w, p := idle(victim, mine), api.Pick{Worker: 1, Half: true}
				half := (many + 1) / 2
				if half == 0 || half-1 > most {
					wantMissed(t, w, p)
					full++
					continue
				}
				got := step.Do(w, p)
				if !slices.Equal(ring.Items(got.Rings[1]), refs(all[1:half]...)) || !slices.Equal(ring.Items(got.Rings[0]), refs(all[half:]...)) || got.Cur[1] != refs(0)[0] || got.Steals != 6 || got.Misses != 7 {
					t.Errorf("half of %d into %d: %s", many, most, told(got))
				}
				is := stepped(w, p)
				wantDo(t, w, p, is)
			}
		}
	}
	if full < 100 {
		t.Errorf("%d times full", full)
	}
}

// P14.1: rings that are not valid have nothing in them and take nothing in, not even no refs; but who steals one ref needs no ring for it.
func TestRingsNotValid(t *testing.T) {
	for _, bad := range notValid() {
		for _, p := range picks(1, 0, 1, 2, -1) {
			wantMissed(t, idle(bad, holds()), p)
			wantMissed(t, idle(bad, bad), p)
			wantMissed(t, idle(holds(), bad), p)
		}
		for many := 1; many < 5; many++ {
			w := idle(holds([]int{1, 2, 3, 4}[:many]...), bad)
			wantMissed(t, w, api.Pick{Worker: 1, Half: true})
			wantChange(t, w, api.Pick{Worker: 1}, func(is *api.World) {
				is.Cur[1], is.Steals = refs(1)[0], 6
				is.Rings[0].Many--
				is.Rings[0].Head = (is.Rings[0].Head + 1) % (many + 1)
			})
		}
	}
}

// P14.1, R6: the greatest numbers of steals and of misses.
func TestCountsWrap(t *testing.T) {
	w := idle(holds(1, 2, 3, 4), holds())
	for _, n := range []int{-1, 0, math.MaxInt - 1, math.MaxInt, math.MinInt} {
		w.Steals, w.Misses = n, n
		if got := step.Do(w, api.Pick{Worker: 1}); got.Steals != n+1 || got.Misses != n {
			t.Errorf("%d steals, %d misses", got.Steals, got.Misses)
		}
		if got := step.Do(w, api.Pick{Worker: 1, Half: true}); got.Steals != n+1 || got.Misses != n {
			t.Errorf("%d steals, %d misses", got.Steals, got.Misses)
		}
		if got := step.Do(w, api.Pick{Worker: 1, Victim: 1}); got.Steals != n || got.Misses != n+1 {
			t.Errorf("%d steals, %d misses", got.Steals, got.Misses)
		}
	}
}

// P14.1: a world that does not run is left alone, whatever the worker could do.
func TestRunsNot(t *testing.T) {
	busy := begun(t, "func 0 0 0; push 1 2; ret", 2, common)
	busy.Rings[1] = holds(1, 2, 3)
	for _, state := range append([]int{over, stops, 3, 4}, far...) {
		w := roomy(busy)
		w.State = state
		for _, p := range slices.Concat(picks(0, 0, 1), picks(1, 0, 1), picks(2, 0, 1)) {
			wantKept(t, w, p)
		}
		w.Err, w.Out = errFuel, api.Out{Trap: 40}
		wantKept(t, w, api.Pick{})
	}
	w := roomy(busy)
	w.Err, w.Out = errFuel, api.Out{Trap: 40, V: api.Value{Re: 1}} // only State tells whether it runs
	wantGo(t, w)
}

// P14.1: workers that there are not.
func TestNobody(t *testing.T) {
	w := begun(t, "func 0 0 0; push 1 2; ret", 3, common)
	for _, worker := range append([]int{3, 4, 64}, far...) {
		for _, p := range picks(worker, 0, 1, 2, 3, -1, worker) {
			wantKept(t, w, p)
			wantKept(t, idle(holds(1), holds(2), holds(3)), p)
		}
	}
	wantKept(t, api.World{}, api.Pick{})
	wantKept(t, api.World{Rings: w.Rings}, api.Pick{})
	wantKept(t, api.World{Cur: w.Cur, Pen: w.Pen, Prog: w.Prog, Limits: w.Limits}, api.Pick{})
}

// P14.1: a Cur that has no frame in the pen, though there is work elsewhere.
func TestStale(t *testing.T) {
	w := begun(t, "func 0 0 0; push 1 2; ret", 2, common)
	w.Rings[0], w.Rings[1] = holds(1, 2), holds(3, 4)
	w.Pen.Cells = append(w.Pen.Cells, api.Cell{Gen: 1, Frame: w.Pen.Cells[0].Frame})
	w.Pen.Free = []int{1}
	wantGo(t, w)
	for _, at := range append([]int{0, 1, 2}, far...) {
		for _, gen := range append([]int{0, 1, 2}, far...) {
			x := roomy(w)
			x.Cur[0] = api.Ref{At: at, Gen: gen}
			switch x.Cur[0] {
			case noRef:
				wantChange(t, x, api.Pick{}, func(is *api.World) { is.Cur[0], is.Rings[0].Many = refs(2)[0], 1 })
			case api.Ref{}:
				wantGo(t, x)
			default:
				for _, p := range picks(0, 0, 1, 2) {
					wantKept(t, x, p)
				}
			}
		}
	}
}

// P14.1: a pen that is not valid has no frames, but a worker without one finds work as ever.
func TestPenNotValid(t *testing.T) {
	for _, spoil := range []func(p *api.Pen){
		func(p *api.Pen) { p.Most = 0 },
		func(p *api.Pen) { p.Most = 1025 },
		func(p *api.Pen) { p.Free = []int{0} },
		func(p *api.Pen) { p.Cells[0].Used = false },
		func(p *api.Pen) { p.Cells[0].Gen = -1 },
		func(p *api.Pen) { p.Cells = append(p.Cells, api.Cell{Gen: 5}) },
		func(p *api.Pen) { p.Cells = append(p.Cells, api.Cell{Gen: lastGen + 1, Used: true}) },
	} {
		w := begun(t, "func 0 0 0; push 1 2; ret", 2, common)
		spoil(&w.Pen)
		w.Cur[0].Gen = w.Pen.Cells[0].Gen
		w.Rings[0] = holds(4, 5)
		for _, p := range picks(0, 0, 1) {
			wantKept(t, w, p)
		}
		wantChange(t, w, api.Pick{Worker: 1}, func(is *api.World) {
			is.Cur[1], is.Steals = refs(4)[0], 1
			is.Rings[0].Head, is.Rings[0].Many = (is.Rings[0].Head+1)%3, 1
		})
	}
}
