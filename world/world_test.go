package world_test

import (
	"fmt"
	"math"
	"reflect"
	"slices"
	"strings"
	"testing"
	"transhumance/api"
	"transhumance/check"
	"transhumance/code"
	"transhumance/frame"
	"transhumance/pen"
	"transhumance/world"
)

// The error and the limits by the numbers that the document gives them.
const (
	ok         = 0
	errArg     = 1
	maxSeed    = 1<<32 - 1
	maxFuel    = 100000
	maxFrames  = 1024
	maxRing    = 1024
	maxWorkers = 64
)

// noRef is the ref of no frame.
var noRef = api.Ref{At: -1}

// far are numbers beyond all limits; among them are those that come to lie within them when they are cut to 8, 16 or 32 bits, or negated.
var far = []int{-1, -2, -3, -64, -1024, -100000, -maxSeed, -1 << 32, 1 << 32, 1<<32 + 1, 1<<32 + 2, 1 << 33, -1<<32 + 1, 1 << 62, math.MinInt, math.MinInt + 1, math.MaxInt - 1, math.MaxInt}

// common are limits that differ from each other.
var common = api.Limits{Fuel: 50, Frames: 9, Ring: 4}

// parsed is the program with these lines, which stand one behind the other.
func parsed(t *testing.T, lines string) api.Prog {
	t.Helper()
	p, at, e := code.Parse(strings.ReplaceAll(lines, "; ", "\n") + "\n")
	if e != api.OK {
		t.Fatalf("line %d of %q: error %d", at, lines, e)
	}
	return p
}

// values are that many values that differ.
func values(many int) []api.Value {
	l := make([]api.Value, many)
	for i := range l {
		l[i] = api.Value{Re: i % 251, Im: 250 - i%250}
	}
	return l
}

// told is all of w; empty lists and none are told alike.
func told(w api.World) string {
	return fmt.Sprintf("%+v", w)
}

// short is so much of a text as can be read.
func short(s string) string {
	return s[:min(len(s), 900)]
}

// begun is the world of P13.1 of a program that can begin with this.
func begun(p api.Prog, args []api.Value, s, workers int, l api.Limits) api.World {
	f := api.Frame{Locals: slices.Clone(args), Slots: make([]api.Slot, p[0].Slots), Seed: s, Up: noRef}
	for len(f.Locals) < p[0].Locals {
		f.Locals = append(f.Locals, api.Value{})
	}
	w := api.World{Prog: p, Limits: l, Pen: api.Pen{Cells: []api.Cell{{Used: true, Frame: f}}, Most: l.Frames}}
	w.Rings, w.Cur = idle(workers, l.Ring)
	w.Cur[0] = api.Ref{}
	return w
}

// idle is what Fresh is to return.
func idle(workers, most int) ([]api.Ring, []api.Ref) {
	var rings []api.Ring
	var cur []api.Ref
	for range workers {
		rings, cur = append(rings, api.Ring{Buf: []api.Ref{{}}, Most: most}), append(cur, api.Ref{At: -1})
	}
	return rings, cur
}

func wantNew(t *testing.T, p api.Prog, args []api.Value, s, workers int, l api.Limits) {
	t.Helper()
	w, e := world.New(p, args, s, workers, l)
	if is := told(begun(p, args, s, workers, l)); e != ok || told(w) != is {
		t.Errorf("%d workers, seed %d, %+v: error %d, %s, want %s", workers, s, l, e, short(told(w)), short(is))
		return
	}
	wantFirst(t, w)
}

// wantFirst: P13.3.
func wantFirst(t *testing.T, w api.World) {
	t.Helper()
	refs, ready := pen.Refs(w.Pen), world.Ready(w)
	f, found := pen.Get(w.Pen, w.Root)
	if !slices.Equal(refs, []api.Ref{w.Root}) || !slices.Equal(ready, refs) || !found || f.State != api.FrameReady || w.Cur[0] != w.Root {
		t.Errorf("%s has the frames %v, and ready are %v", short(told(w)), refs, ready)
	}
	for at := range w.Cur {
		one := w
		one.Rings, one.Cur = w.Rings[at:at+1], w.Cur[at:at+1]
		if many := len(world.Ready(one)); many > 0 != (at == 0) {
			t.Errorf("%s: worker %d has %d frames", short(told(w)), at, many)
		}
	}
}

func wantRefused(t *testing.T, p api.Prog, args []api.Value, s, workers int, l api.Limits) {
	t.Helper()
	w, e := world.New(p, args, s, workers, l)
	if e != errArg || told(w) != told(api.World{}) {
		t.Errorf("New of %s with %d arguments, the seed %d, %d workers, %+v: error %d, %s", short(fmt.Sprint(p)), len(args), s, workers, l, e, short(told(w)))
	}
}

func wantFresh(t *testing.T, workers int, l api.Limits, isRings []api.Ring, isCur []api.Ref) {
	t.Helper()
	rings, cur := world.Fresh(workers, l)
	if fmt.Sprintf("%+v", rings) != fmt.Sprintf("%+v", isRings) || !slices.Equal(cur, isCur) {
		t.Errorf("Fresh(%d, %+v): %v, %v, want %v, %v", workers, l, rings, cur, isRings, isCur)
	}
}

func wantReady(t *testing.T, w api.World, is ...api.Ref) {
	t.Helper()
	if l := world.Ready(w); !slices.Equal(l, is) {
		t.Errorf("Ready of %v, %v: %v, want %v", w.Cur, w.Rings, l, is)
	}
}

func wantSame(t *testing.T, a, b api.World, is bool, what string) {
	t.Helper()
	if world.Same(a, b) != is || world.Same(b, a) != is {
		t.Errorf("%s: Same of %s\nand %s: want %v", what, short(told(a)), short(told(b)), is)
	}
}

// P13.1: one world, field by field.
func TestNewWritten(t *testing.T) {
	p := parsed(t, "func 2 3 2; load 0; spawn 1 1; join 1; ret; func 1 1 0; load 0; ret")
	w, e := world.New(p, []api.Value{{Re: 4, Im: 250}, {Re: 0, Im: 7}}, 77, 3, api.Limits{Fuel: 50, Frames: 9, Ring: 4})
	is := api.World{
		Prog: api.Prog{
			{Arity: 2, Locals: 3, Slots: 2, Code: []api.Instr{{Op: 1}, {Op: 13, A: 1, B: 1}, {Op: 14, A: 1}, {Op: 15}}},
			{Arity: 1, Locals: 1, Code: []api.Instr{{Op: 1}, {Op: 15}}},
		},
		Limits: api.Limits{Fuel: 50, Frames: 9, Ring: 4},
		Pen: api.Pen{
			Cells: []api.Cell{{Used: true, Frame: api.Frame{
				Locals: []api.Value{{Re: 4, Im: 250}, {Re: 0, Im: 7}, {}},
				Slots:  []api.Slot{{}, {}},
				Seed:   77,
				Up:     api.Ref{At: -1},
			}}},
			Most: 9,
		},
		Rings: []api.Ring{{Buf: []api.Ref{{}}, Most: 4}, {Buf: []api.Ref{{}}, Most: 4}, {Buf: []api.Ref{{}}, Most: 4}},
		Cur:   []api.Ref{{}, {At: -1}, {At: -1}},
	}
	if e != ok || told(w) != told(is) {
		t.Errorf("error %d, %s, want %s", e, told(w), told(is))
	}
	wantFirst(t, w)
}

// goodProgs are programs that can begin, of which each takes values(its Arity).
var goodProgs = []string{
	"func 0 0 0; push 1 2; ret",
	"func 0 0 8; trap 255",
	"func 1 1 0; load 0; ret",
	"func 0 16 0; load 15; ret",
	"func 16 16 8; load 15; ret",
	"func 3 5 1; spawn 1 0; join 0; ret; func 0 0 0; push 1 2; ret",
	"func 0 0 0; push 1 1; ret; add; jump 2", // what is not reached may be anything
	"func 0 0 0; jump 0",
	"func 1 2 3; load 1; ret; func 4 5 6; load 4; ret; func 0 0 0; rand; ret",
}

// P13.1, P13.3: programs, seeds, workers and limits, at their edges and between.
func TestNew(t *testing.T) {
	for _, lines := range goodProgs {
		p := parsed(t, lines)
		args := values(p[0].Arity)
		for _, s := range []int{0, 1, 7, 255, 256, 1 << 16, 1<<31 - 1, 1 << 31, maxSeed - 1, maxSeed} {
			wantNew(t, p, args, s, 1+s%3, common)
		}
		for _, workers := range []int{1, 2, 63, 64} {
			for _, l := range []api.Limits{common, {Fuel: 1, Frames: 1, Ring: 1}, {Fuel: maxFuel, Frames: maxFrames, Ring: maxRing}, {Fuel: 1, Frames: maxFrames, Ring: 2}, {Fuel: 99999, Frames: 1, Ring: maxRing}} {
				wantNew(t, p, args, 5, workers, l)
			}
		}
	}
}

// P13.1: all numbers of workers, and numbers that are none.
func TestNewWorkers(t *testing.T) {
	p := parsed(t, goodProgs[2])
	for workers := 1; workers <= maxWorkers; workers++ {
		wantNew(t, p, values(1), 3, workers, common)
	}
	for _, workers := range append([]int{0, 65, 66, 100, 128, 256, 257, 1024, 1 << 16, 1<<16 + 1}, far...) {
		wantRefused(t, p, values(1), 3, workers, common)
	}
}

// P13.1: the edges of each limit, and all numbers of frames and of a ring's refs.
func TestNewLimits(t *testing.T) {
	p := parsed(t, goodProgs[2])
	for n := 1; n <= maxFrames; n++ {
		wantNew(t, p, values(1), 3, 1, api.Limits{Fuel: 2, Frames: n, Ring: 3})
		wantNew(t, p, values(1), 3, 2, api.Limits{Fuel: 2, Frames: 3, Ring: n})
		wantNew(t, p, values(1), 3, 1, api.Limits{Fuel: n, Frames: 3, Ring: 3})
	}
	for _, fuel := range []int{1025, 1 << 16, 1<<16 + 1, 99998, 99999, 100000} {
		wantNew(t, p, values(1), 3, 2, api.Limits{Fuel: fuel, Frames: 3, Ring: 3})
	}
	for _, n := range append([]int{0, 100001, 100002, 1 << 17, 1<<31 - 1}, far...) {
		wantRefused(t, p, values(1), 3, 2, api.Limits{Fuel: n, Frames: 3, Ring: 3})
	}
	for _, n := range append([]int{0, 1025, 1026, 2048, 1 << 16, 1<<16 + 1, 100000}, far...) {
		wantRefused(t, p, values(1), 3, 2, api.Limits{Fuel: 2, Frames: n, Ring: 3})
		wantRefused(t, p, values(1), 3, 2, api.Limits{Fuel: 2, Frames: 3, Ring: n})
		wantRefused(t, p, values(1), 3, 1, api.Limits{Fuel: n, Frames: n, Ring: n})
	}
}

// P13.1: seeds that are none.
func TestNewSeed(t *testing.T) {
	for _, lines := range goodProgs {
		p := parsed(t, lines)
		for _, s := range far {
			wantRefused(t, p, values(p[0].Arity), s, 2, common)
		}
	}
}

// P13.1: arguments that are too few, too many, or no values.
func TestNewArguments(t *testing.T) {
	odd := append([]int{251, 252, 256, 502, 1000}, far...)
	for _, lines := range goodProgs {
		p := parsed(t, lines)
		arity := p[0].Arity
		for many := range 40 {
			if many != arity {
				wantRefused(t, p, values(many), 3, 2, common)
			}
		}
		for _, many := range []int{arity + 256, arity + 1<<16} {
			wantRefused(t, p, values(many), 3, 2, common)
		}
		for at := range arity {
			for _, n := range odd {
				re, im := values(arity), values(arity)
				re[at].Re, im[at].Im = n, n
				wantRefused(t, p, re, 3, 2, common)
				wantRefused(t, p, im, 3, 2, common)
			}
		}
		wantNew(t, p, slices.Repeat([]api.Value{{Re: 250, Im: 250}}, arity), 3, 2, common)
		wantNew(t, p, make([]api.Value, arity), 3, 2, common)
	}
}

// P13.1: programs that Check refuses, each error in the first function and in the last one.
func TestNewProgram(t *testing.T) {
	for _, c := range []struct {
		e     api.Errno
		lines string
	}{
		{80, "func 1 0 0; push 1 1; ret"},
		{80, "func 16 15 0; push 1 1; ret"},
		{81, "func 0 0 0; push 1 1"},
		{81, "func 0 0 0; push 1 1; zero 0"},
		{82, "func 0 0 0; load 0; ret"},
		{82, "func 0 1 0; push 1 1; store 1; trap 50"},
		{82, "func 0 0 1; join 1; ret"},
		{82, "func 0 0 0; spawn 0 0; trap 50"},
		{82, "func 0 0 1; spawn 9 0; trap 50"},
		{82, "func 0 0 0; trap 50; load 0"},
		{83, "func 0 0 0; jump 1"},
		{83, "func 0 0 0; push 1 1; zero 9; trap 50"},
		{84, "func 0 0 0; ret"},
		{84, "func 0 0 0; push 1 1; jump 0"},
		{84, "func 0 0 0; push 1 1; dup; jump 1"},
		{84, "func 0 0 0" + strings.Repeat("; rand", 17) + "; ret"},
	} {
		bad, good := parsed(t, c.lines), parsed(t, goodProgs[0])
		for _, p := range []api.Prog{bad, append(slices.Clone(bad), good...), append(slices.Clone(good), bad...), slices.Concat(good, good, bad, good)} {
			if _, _, e := check.Check(p); e != c.e {
				t.Errorf("%v: error %d, want %d", p, e, c.e)
			}
			wantRefused(t, p, values(p[0].Arity), 3, 2, common)
		}
	}
}

// P13.1: programs that are not valid.
func TestNewNoProgram(t *testing.T) {
	ret := []api.Instr{{Op: 0, A: 1}, {Op: 15}}
	f := api.Func{Code: ret}
	with := func(change func(f *api.Func)) api.Prog {
		g := f
		change(&g)
		return api.Prog{f, g}
	}
	for _, p := range []api.Prog{
		nil, {}, make(api.Prog, 1), make(api.Prog, 17), slices.Repeat(api.Prog{f}, 17), slices.Repeat(api.Prog{f}, 1<<16),
		with(func(f *api.Func) { f.Code = nil }),
		with(func(f *api.Func) { f.Code = slices.Repeat(ret, 101) }),
		with(func(f *api.Func) { f.Arity = -1 }),
		with(func(f *api.Func) { f.Arity, f.Locals = 17, 17 }),
		with(func(f *api.Func) { f.Locals = 17 }),
		with(func(f *api.Func) { f.Locals = math.MaxInt }),
		with(func(f *api.Func) { f.Slots = 9 }),
		with(func(f *api.Func) { f.Slots = math.MinInt }),
		with(func(f *api.Func) { f.Code = []api.Instr{{Op: 17}} }),
		with(func(f *api.Func) { f.Code = []api.Instr{{Op: -1}} }),
		with(func(f *api.Func) { f.Code = []api.Instr{{Op: 0, A: 251}, {Op: 15}} }),
		with(func(f *api.Func) { f.Code = []api.Instr{{Op: 0}, {Op: 15, A: 1}} }),
		with(func(f *api.Func) { f.Code = []api.Instr{{Op: 10, A: -1}} }),
	} {
		wantRefused(t, p, nil, 3, 2, common)
		wantRefused(t, p, values(17), 3, 2, common)
		if len(p) == 2 {
			slices.Reverse(p)
			wantRefused(t, p, values(min(max(p[0].Arity, 0), 17)), 3, 2, common)
		}
	}
	wantNew(t, slices.Repeat(api.Prog{f}, 16), nil, 3, 2, common)
	wantNew(t, api.Prog{{Code: slices.Repeat(ret, 100)}}, nil, 3, 2, common)
}

// P13.1, R2: all combinations of one good and one wrong thing in each place.
func TestNewSeveralWrong(t *testing.T) {
	good, bad := parsed(t, goodProgs[2]), parsed(t, "func 1 1 0; ret")
	for which := range 1 << 7 {
		one := func(at, right, wrong int) int {
			if which>>at&1 != 0 {
				return wrong
			}
			return right
		}
		p := []api.Prog{good, bad}[one(0, 0, 1)]
		args, s, workers := values(one(1, 1, 2)), one(2, maxSeed, -1), one(3, 64, 65)
		l := api.Limits{Fuel: one(4, maxFuel, 0), Frames: one(5, maxFrames, 1025), Ring: one(6, 1, -1)}
		if which == 0 {
			wantNew(t, p, args, s, workers, l)
		} else {
			wantRefused(t, p, args, s, workers, l)
		}
	}
}

// P13.1: rings and current frames of all numbers of workers, whatever the other limits are, and of none.
func TestFresh(t *testing.T) {
	for workers := 1; workers <= maxWorkers; workers++ {
		for _, most := range []int{1, 2, 3, 64, 65, 1000, 1023, 1024} {
			rings, cur := idle(workers, most)
			wantFresh(t, workers, api.Limits{Ring: most}, rings, cur)
			wantFresh(t, workers, api.Limits{Fuel: -1, Frames: math.MaxInt, Ring: most}, rings, cur)
			wantFresh(t, workers, api.Limits{Fuel: 1, Frames: 1, Ring: most}, rings, cur)
		}
	}
	for most := 1; most <= maxRing; most++ {
		rings, cur := idle(2, most)
		wantFresh(t, 2, api.Limits{Fuel: 1, Frames: 1, Ring: most}, rings, cur)
	}
	for _, workers := range append([]int{0, 65, 66, 128, 256, 257, 1024, 1 << 16, 1<<16 + 1}, far...) {
		wantFresh(t, workers, common, nil, nil)
		wantFresh(t, workers, api.Limits{}, nil, nil)
	}
	for _, most := range append([]int{0, 1025, 1026, 2048, 1 << 16, 1<<16 + 1}, far...) {
		for _, workers := range []int{1, 2, 64, most} {
			wantFresh(t, workers, api.Limits{Fuel: 9, Frames: 9, Ring: most}, nil, nil)
		}
	}
}

// refs are refs with these places, and with generations that differ.
func refs(places ...int) []api.Ref {
	var l []api.Ref
	for _, at := range places {
		l = append(l, api.Ref{At: at, Gen: 100 + at})
	}
	return l
}

// holds is a valid ring with these items, which has room for one more and begins in the midst of its buffer.
func holds(places ...int) api.Ring {
	items := refs(places...)
	half := len(items) / 2
	buf := slices.Concat(items[half:], refs(-9), items[:half])
	return api.Ring{Buf: buf, Head: (len(items) - half + 1) % len(buf), Many: len(items), Most: maxRing}
}

// P13.2: workers one by one, with and without a current frame, and the items of their rings.
func TestReady(t *testing.T) {
	none := holds()
	for _, c := range []struct {
		rings []api.Ring
		cur   []api.Ref
		is    []api.Ref
	}{
		{nil, nil, nil},
		{nil, refs(1, 2), nil}, // as many workers as rings
		{[]api.Ring{none}, []api.Ref{noRef}, nil},
		{[]api.Ring{none}, refs(5), refs(5)},
		{[]api.Ring{none}, []api.Ref{{}}, []api.Ref{{}}},
		{[]api.Ring{none}, nil, nil},
		{[]api.Ring{none}, refs(5, 6), refs(5)},
		{[]api.Ring{holds(1, 2, 3)}, nil, refs(1, 2, 3)}, // it has no current frame at all
		{[]api.Ring{holds(1, 2, 3)}, []api.Ref{noRef}, refs(1, 2, 3)},
		{[]api.Ring{holds(1, 2, 3)}, refs(4), refs(4, 1, 2, 3)},
		{[]api.Ring{holds(3, 2, 1)}, refs(0), refs(0, 3, 2, 1)},
		{[]api.Ring{holds(1, 2), holds(3, 4)}, refs(5, 6), refs(5, 1, 2, 6, 3, 4)},
		{[]api.Ring{holds(1, 2), holds(3, 4)}, refs(5), refs(5, 1, 2, 3, 4)},
		{[]api.Ring{holds(1, 2), holds(3, 4)}, nil, refs(1, 2, 3, 4)},
		{[]api.Ring{holds(1, 2), holds(3, 4)}, refs(5, 6, 7), refs(5, 1, 2, 6, 3, 4)},
		{[]api.Ring{holds(1, 2), holds(3, 4)}, []api.Ref{noRef, refs(6)[0]}, refs(1, 2, 6, 3, 4)},
		{[]api.Ring{none, holds(3), none}, []api.Ref{noRef, noRef, refs(9)[0]}, refs(3, 9)},
		{[]api.Ring{holds(1, 1), holds(1)}, refs(1, 1), refs(1, 1, 1, 1, 1)},                           // as often as it is there
		{[]api.Ring{{}, holds(2)}, refs(1, 3), refs(1, 3, 2)},                                          // a ring that is not valid
		{[]api.Ring{{Buf: refs(7), Many: 1}, holds(2)}, refs(1, 3), refs(1, 3, 2)},                     // nor this one: Most
		{[]api.Ring{{Buf: refs(7), Many: 2, Most: 9}, holds(2)}, refs(1, 3), refs(1, 3, 2)},            // Many
		{[]api.Ring{{Buf: refs(7), Head: 1, Many: 1, Most: 9}}, []api.Ref{noRef}, nil},                 // Head
		{[]api.Ring{{Buf: refs(7, 8), Many: 1, Most: 9}}, []api.Ref{noRef}, refs(7)},                   // what is not an item
		{[]api.Ring{{Buf: refs(7, 8), Head: 1, Many: 2, Most: 2}}, refs(5), refs(5, 8, 7)},             // round
		{[]api.Ring{{Buf: []api.Ref{noRef}, Many: 1, Most: 1}}, refs(5), []api.Ref{refs(5)[0], noRef}}, // an item is told, whatever it is
	} {
		wantReady(t, api.World{Rings: c.rings, Cur: c.cur}, c.is...)
		stopped := api.World{Rings: c.rings, Cur: c.cur, State: api.WorldStops, Err: 100, Root: noRef, Used: -1, Limits: api.Limits{Ring: -1}}
		wantReady(t, stopped, c.is...)
	}
}

// P13.2: only At -1 with Gen 0 is NoRef.
func TestReadyNear(t *testing.T) {
	for _, at := range append([]int{0, 1, 5}, far...) {
		for _, gen := range append([]int{0, 1, 5}, far...) {
			r := api.Ref{At: at, Gen: gen}
			w := api.World{Rings: []api.Ring{holds(8), holds(9)}, Cur: []api.Ref{r, r}}
			if at == -1 && gen == 0 {
				wantReady(t, w, refs(8, 9)...)
			} else {
				wantReady(t, w, r, refs(8)[0], r, refs(9)[0])
			}
		}
	}
}

// P13.2: more workers and fuller rings than a valid world has.
func TestReadyMany(t *testing.T) {
	var w api.World
	var is []api.Ref
	for worker := range 100 {
		w.Cur = append(w.Cur, refs(worker)...)
		is = append(is, w.Cur[worker])
		r := api.Ring{Head: worker * 10, Many: maxRing, Most: maxRing}
		for n := range maxRing {
			r.Buf = append(r.Buf, api.Ref{At: n, Gen: worker})
		}
		for n := range maxRing {
			is = append(is, r.Buf[(r.Head+n)%maxRing])
		}
		w.Rings = append(w.Rings, r)
	}
	wantReady(t, w, is...)
}

// some is a world of which every list has more than one element, none of whose numbers is 0.
func some() api.World {
	n := 0
	next := func() int { n++; return n }
	value := func() api.Value { return api.Value{Re: next(), Im: next()} }
	ref := func() api.Ref { return api.Ref{At: next(), Gen: next()} }
	out := func() api.Out { return api.Out{Trap: next(), V: value()} }
	slot := func() api.Slot { return api.Slot{State: next(), Kid: ref(), Out: out()} }
	instr := func() api.Instr { return api.Instr{Op: next(), A: next(), B: next()} }
	f := func() api.Func {
		return api.Func{Arity: next(), Locals: next(), Slots: next(), Code: []api.Instr{instr(), instr()}}
	}
	cell := func() api.Cell {
		return api.Cell{Gen: next(), Used: true, Frame: api.Frame{
			Fn: next(), Pc: next(), Seed: next(), Spawned: next(), Draws: next(), State: next(), Wait: next(), UpSlot: next(),
			Stack: []api.Value{value(), value()}, Locals: []api.Value{value(), value()}, Slots: []api.Slot{slot(), slot()},
			Out: out(), Up: ref(),
		}}
	}
	ring := func() api.Ring {
		return api.Ring{Buf: []api.Ref{ref(), ref()}, Head: next(), Many: next(), Most: next()}
	}
	return api.World{
		Prog: api.Prog{f(), f()}, Limits: api.Limits{Fuel: next(), Frames: next(), Ring: next()},
		Pen:   api.Pen{Cells: []api.Cell{cell(), cell()}, Free: []int{next(), next()}, Most: next()},
		Rings: []api.Ring{ring(), ring()}, Cur: []api.Ref{ref(), ref()}, Root: ref(),
		Used: next(), State: next(), Out: out(), Err: api.Errno(next()), Steals: next(), Misses: next(),
	}
}

// vary gives v, and each thing that is in it, other values, one at a time, and calls do with the thing's name each time.
func vary(v reflect.Value, name string, do func(name string)) {
	switch v.Kind() {
	case reflect.Int:
		old := v.Int()
		for _, by := range []int64{1, -1, 1 << 8, 1 << 16, 1 << 32, -1 << 32, 1 << 62, math.MinInt64, -2 * old} {
			v.SetInt(old + by)
			do(name)
		}
		v.SetInt(0)
		do(name)
		v.SetInt(old)
	case reflect.Bool:
		v.SetBool(!v.Bool())
		do(name)
		v.SetBool(!v.Bool())
	case reflect.Struct:
		for i := range v.NumField() {
			vary(v.Field(i), name+"."+v.Type().Field(i).Name, do)
		}
	case reflect.Slice:
		varyList(v, name, do)
	}
}

func varyList(v reflect.Value, name string, do func(name string)) {
	old, many := reflect.ValueOf(v.Interface()), v.Len()
	longer, turned := reflect.AppendSlice(reflect.MakeSlice(v.Type(), 0, 0), old), reflect.MakeSlice(v.Type(), 0, 0)
	for i := range many {
		turned = reflect.Append(turned, old.Index(many-1-i))
	}
	for _, other := range []reflect.Value{
		reflect.Zero(v.Type()), old.Slice(0, many-1), old.Slice(1, many), turned,
		reflect.Append(longer, reflect.Zero(v.Type().Elem())), reflect.Append(longer, old.Index(many-1)),
	} {
		v.Set(other)
		do(name)
	}
	v.Set(old)
	for i := range many {
		vary(v.Index(i), fmt.Sprint(name, i), do)
	}
}

// P13.2: a change of any one number or list is told, wherever it is.
func TestSame(t *testing.T) {
	changed, is := 0, some()
	w := some()
	vary(reflect.ValueOf(&w).Elem(), "world", func(name string) {
		changed++
		wantSame(t, w, is, false, name)
	})
	if changed < 1000 {
		t.Errorf("%d changes", changed)
	}
	wantSame(t, w, is, true, "unchanged")
	wantSame(t, api.World{}, is, false, "no world")
	wantSame(t, api.World{}, api.World{}, true, "no worlds")
}

// P13.2: the same change in both is none, in worlds that are valid as little as those.
func TestSameBoth(t *testing.T) {
	a, b := some(), some()
	var names []string
	var texts []string
	vary(reflect.ValueOf(&a).Elem(), "world", func(name string) {
		names, texts = append(names, name), append(texts, told(a))
	})
	at := 0
	vary(reflect.ValueOf(&b).Elem(), "world", func(name string) {
		if name != names[at] || told(b) != texts[at] {
			t.Fatalf("%s is not %s", name, names[at])
		}
		wantSame(t, b, roomy(b), true, name)
		at++
	})
}

// P13.2: two fields that are exchanged.
func TestSameExchanged(t *testing.T) {
	var numbers func(v reflect.Value) []reflect.Value
	numbers = func(v reflect.Value) []reflect.Value {
		if v.Kind() == reflect.Int {
			return []reflect.Value{v}
		}
		var l []reflect.Value
		if v.Kind() == reflect.Struct {
			for i := range v.NumField() {
				l = append(l, numbers(v.Field(i))...)
			}
		}
		return l
	}
	w, is := some(), some()
	l := numbers(reflect.ValueOf(&w).Elem())
	for i := range l {
		for j := range i {
			x, y := l[i].Int(), l[j].Int()
			l[i].SetInt(y)
			l[j].SetInt(x)
			wantSame(t, w, is, false, fmt.Sprint("exchanged ", x, y))
			l[i].SetInt(x)
			l[j].SetInt(y)
		}
	}
	if wantSame(t, w, is, true, "changed back"); len(l) != 3+1+2+2+3+1+2 {
		t.Errorf("%d numbers that are in no list", len(l))
	}
}

// P13.2: rings are compared in all their fields: the same items in another buffer are another ring.
func TestSameRings(t *testing.T) {
	with := func(r api.Ring) api.World { return api.World{Rings: []api.Ring{r}} }
	is := api.Ring{Buf: refs(1, 2, 3), Many: 2, Most: 4}
	for _, r := range []api.Ring{
		{Buf: refs(1, 2), Many: 2, Most: 4},
		{Buf: refs(1, 2, 4), Many: 2, Most: 4},
		{Buf: refs(3, 1, 2), Head: 1, Many: 2, Most: 4},
		{Buf: refs(1, 2, 3), Many: 3, Most: 4},
		{Buf: refs(1, 2, 3), Many: 2, Most: 5},
		{Buf: refs(1, 2, 3), Head: 1, Many: 2, Most: 4},
		{},
	} {
		wantSame(t, with(r), with(is), false, "rings")
		wantSame(t, api.World{Rings: []api.Ring{is, r}}, api.World{Rings: []api.Ring{is, is}}, false, "second rings")
		wantSame(t, api.World{Rings: []api.Ring{is, r}}, api.World{Rings: []api.Ring{r, is}}, false, "rings the other way round")
		wantSame(t, with(r), with(r), true, "rings")
	}
	wantSame(t, api.World{Rings: []api.Ring{{}}}, api.World{}, false, "no ring")
}

// P13.2, R5: empty lists and none are the same.
func TestSameEmpty(t *testing.T) {
	none, empty := api.World{}, api.World{Prog: api.Prog{}, Rings: []api.Ring{}, Cur: make([]api.Ref, 0, 3), Pen: api.Pen{Cells: []api.Cell{}, Free: []int{}}}
	wantSame(t, none, empty, true, "empty lists")
	none.Prog, empty.Prog = api.Prog{{}}, api.Prog{{Code: []api.Instr{}}}
	none.Rings, empty.Rings = []api.Ring{{}}, []api.Ring{{Buf: []api.Ref{}}}
	none.Pen.Cells, empty.Pen.Cells = []api.Cell{{}}, []api.Cell{{Frame: api.Frame{Stack: []api.Value{}, Locals: []api.Value{}, Slots: []api.Slot{}}}}
	wantSame(t, none, empty, true, "empty lists in lists")
	wantReady(t, none)
	wantReady(t, empty)
	p := parsed(t, goodProgs[0])
	for _, args := range [][]api.Value{nil, {}, make([]api.Value, 0, 5)} {
		wantNew(t, p, args, 3, 2, common)
		wantRefused(t, api.Prog{}, args, 3, 2, common)
	}
}

// P13.1 to P13.3: new worlds are the same if and only if they were made of the same.
func TestNewSame(t *testing.T) {
	var l []api.World
	for _, lines := range goodProgs[:4] {
		p := parsed(t, lines)
		for _, s := range []int{0, maxSeed} {
			for _, workers := range []int{1, 64} {
				for _, x := range []api.Limits{common, {Fuel: 50, Frames: 4, Ring: 9}, {Fuel: 51, Frames: 9, Ring: 4}} {
					w, _ := world.New(p, values(p[0].Arity), s, workers, x)
					l = append(l, w)
				}
			}
		}
	}
	for i, a := range l {
		for j, b := range l {
			wantSame(t, a, b, i == j, "new worlds")
		}
	}
}

// P13.3: the frame of a new world is that of function 0, and can be executed.
func TestNewBegins(t *testing.T) {
	p := parsed(t, goodProgs[5])
	w, _ := world.New(p, values(3), 9, 5, common)
	f, _ := pen.Get(w.Pen, w.Cur[0])
	is, _ := frame.New(p, 0, values(3), 9)
	if !frame.Same(f, is) {
		t.Errorf("%v, want %v", f, is)
	}
	if _, act := frame.Do(w.Prog, f); act.Kind != api.ActSpawn {
		t.Errorf("%v begins with %v", f, act)
	}
}
