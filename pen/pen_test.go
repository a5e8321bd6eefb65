package pen_test

import (
	"fmt"
	"math"
	"slices"
	"testing"
	"transhumance/api"
	"transhumance/frame"
	"transhumance/pen"
)

// The errors, the greatest pen and the last generation by the numbers that the document gives them.
const (
	ok        = 0
	errArg    = 1
	errFrames = 120
	errStale  = 121
	maxFrames = 1024
	lastGen   = 1<<32 - 1
)

// far are numbers beyond all limits; among them are those that come to lie within them when they are cut to 8, 16 or 32 bits, or negated.
var far = []int{-1, -2, -3, -1024, -lastGen, -1 << 32, 1 << 32, 1<<32 + 1, 1<<32 + 2, 1 << 33, -1<<32 + 1, 1 << 62, math.MinInt, math.MinInt + 1, math.MaxInt - 1, math.MaxInt}

// task is one of many frames that differ, none of whose fields is 0.
func task(n int) api.Frame {
	v := api.Value{Re: n, Im: n + 1}
	out := api.Out{Trap: n + 2, V: v}
	slot := api.Slot{State: n + 3, Kid: api.Ref{At: n + 4, Gen: n + 5}, Out: out}
	return api.Frame{
		Fn: n + 6, Pc: n + 7, Seed: n + 8, Spawned: n + 9, Draws: n + 10, State: n + 11, Wait: n + 12, UpSlot: n + 13,
		Stack: []api.Value{v, v}, Locals: []api.Value{v}, Slots: []api.Slot{slot, slot}, Out: out, Up: slot.Kid,
	}
}

// used is a cell with the frame n, unused one that still has it: what is in a cell that is not used is of no account.
func used(gen, n int) api.Cell {
	return api.Cell{Gen: gen, Used: true, Frame: task(n)}
}

func unused(gen, n int) api.Cell {
	return api.Cell{Gen: gen, Frame: task(n)}
}

func bare(gen int) api.Cell {
	return api.Cell{Gen: gen}
}

// of is a pen of these cells.
func of(most int, free []int, cells ...api.Cell) api.Pen {
	return api.Pen{Most: most, Free: free, Cells: cells}
}

// told is p, or so much of it as can be read, for an error's text.
func told(p api.Pen) string {
	few := p.Cells[:min(6, len(p.Cells))]
	return fmt.Sprintf("{Most %d Free %d %v Cells %d %v}", p.Most, len(p.Free), p.Free[:min(20, len(p.Free))], len(p.Cells), few)
}

// equal reports whether a and b are equal in all fields, as Same is to do.
func equal(a, b api.Pen) bool {
	if a.Most != b.Most || len(a.Cells) != len(b.Cells) || !slices.Equal(a.Free, b.Free) {
		return false
	}
	for at, c := range a.Cells {
		if c.Gen != b.Cells[at].Gen || c.Used != b.Cells[at].Used || !frame.Same(c.Frame, b.Cells[at].Frame) {
			return false
		}
	}
	return true
}

// wantPen: what one of the calls made of the pen p.
func wantPen(t *testing.T, call string, p, q, is api.Pen) {
	t.Helper()
	if !equal(q, is) {
		t.Errorf("%s with %s:\n%s, want\n%s", call, told(p), told(q), told(is))
	}
}

func wantGet(t *testing.T, p api.Pen, r api.Ref, is api.Frame, isOK bool) {
	t.Helper()
	f, got := pen.Get(p, r)
	if got != isOK || !frame.Same(f, is) {
		t.Errorf("Get of %v in %s: %v, %v, want %v, %v", r, told(p), f, got, is, isOK)
	}
}

func wantRefs(t *testing.T, p api.Pen, is ...api.Ref) {
	t.Helper()
	if l := pen.Refs(p); !slices.Equal(l, is) {
		t.Errorf("Refs of %s: %v, want %v", told(p), l, is)
	}
}

func wantLay(t *testing.T, p api.Pen, f api.Frame, is api.Pen, isRef api.Ref, isError api.Errno) {
	t.Helper()
	q, r, e := pen.Lay(p, f)
	wantPen(t, "Lay", p, q, is)
	if r != isRef || e != isError {
		t.Errorf("Lay into %s: %v, error %d, want %v, error %d", told(p), r, e, isRef, isError)
	}
}

func wantSet(t *testing.T, p api.Pen, r api.Ref, f api.Frame, is api.Pen, isError api.Errno) {
	t.Helper()
	q, e := pen.Set(p, r, f)
	wantPen(t, "Set", p, q, is)
	if e != isError {
		t.Errorf("Set of %v in %s: error %d, want %d", r, told(p), e, isError)
	}
}

func wantDrop(t *testing.T, p api.Pen, r api.Ref, is api.Pen, isError api.Errno) {
	t.Helper()
	q, e := pen.Drop(p, r)
	wantPen(t, "Drop", p, q, is)
	if e != isError {
		t.Errorf("Drop of %v in %s: error %d, want %d", r, told(p), e, isError)
	}
}

// wantStale: r has no cell in p, which is valid.
func wantStale(t *testing.T, p api.Pen, r api.Ref) {
	t.Helper()
	wantGet(t, p, r, api.Frame{}, false)
	wantSet(t, p, r, task(9), p, errStale)
	wantDrop(t, p, r, p, errStale)
}

// wantWrong: p is not valid, so that there is nothing in it, and every call returns it as it is.
func wantWrong(t *testing.T, p api.Pen) {
	t.Helper()
	if pen.May(p) {
		t.Errorf("%s is not valid", told(p))
	}
	wantRefs(t, p)
	wantLay(t, p, task(9), p, api.Ref{}, errArg)
	refs := []api.Ref{{}, {At: -1}, {At: 1}, {At: math.MaxInt, Gen: math.MinInt}}
	for at, c := range p.Cells[:min(4, len(p.Cells))] {
		refs = append(refs, api.Ref{At: at, Gen: c.Gen})
	}
	for _, r := range refs {
		wantGet(t, p, r, api.Frame{}, false)
		wantSet(t, p, r, task(9), p, errArg)
		wantDrop(t, p, r, p, errArg)
	}
}

// P12.1: all pens that there are, and numbers of which there is none.
func TestNew(t *testing.T) {
	for most := 1; most <= maxFrames; most++ {
		p, got := pen.New(most)
		if !got || !pen.May(p) || !equal(p, api.Pen{Most: most}) {
			t.Errorf("New(%d): %s, %v", most, told(p), got)
		}
		wantRefs(t, p)
	}
	for _, most := range append([]int{0, 1025, 1026, 2048, 1 << 16, 1<<16 + 1}, far...) {
		p, got := pen.New(most)
		if got || !equal(p, api.Pen{}) {
			t.Errorf("New(%d): %s, %v", most, told(p), got)
		}
	}
}

// P12.1: Most, and how many cells there are.
func TestMayMost(t *testing.T) {
	for _, c := range []struct {
		most, many int
		is         bool
	}{
		{1, 0, true}, {1, 1, true}, {2, 1, true}, {2, 2, true}, {3, 3, true}, {1024, 0, true}, {1024, 1, true}, {1024, 1023, true}, {1024, 1024, true}, {1023, 1023, true},
		{0, 0, false}, {0, 1, false}, {1, 2, false}, {2, 3, false}, {1023, 1024, false}, {1024, 1025, false}, {1025, 1025, false}, {1025, 0, false}, {1025, 1, false}, {1 << 16, 1, false}, {1 << 17, 1 << 16, false}, {1024, 1 << 16, false},
	} {
		all, none := of(c.most, nil), of(c.most, nil)
		for at := range c.many {
			all.Cells = append(all.Cells, used(at, at))
			none.Cells, none.Free = append(none.Cells, unused(at, at)), append(none.Free, at)
		}
		for _, p := range []api.Pen{all, none} {
			if pen.May(p) != c.is {
				t.Errorf("May of %s: want %v", told(p), c.is)
			}
			if !c.is {
				wantWrong(t, p)
			}
		}
	}
	for _, most := range far {
		wantWrong(t, of(most, nil))
		wantWrong(t, of(most, nil, used(0, 1)))
	}
}

// P12.1: the generations, of cells that are used and of others, wherever they stand.
func TestMayGen(t *testing.T) {
	for at := range 3 {
		for _, isUsed := range []bool{false, true} {
			with := func(gen int) api.Pen {
				p := of(5, nil, used(1, 1), used(2, 2), used(3, 3))
				if p.Cells[at].Gen, p.Cells[at].Used = gen, isUsed; !isUsed {
					p.Free = []int{at}
				}
				return p
			}
			for _, gen := range []int{0, 1, 2, 250, 255, 256, 1 << 16, 1<<31 - 1, 1 << 31, 1<<31 + 1, lastGen - 1, lastGen} {
				if p := with(gen); !pen.May(p) {
					t.Errorf("May of %s: want true", told(p))
				}
			}
			for _, gen := range far {
				wantWrong(t, with(gen))
			}
		}
	}
}

// tellsFree reports whether free is exactly those indices of cells that are not used, as the chapter says it.
func tellsFree(free []int, cells []api.Cell) bool {
	var is []int
	for at, c := range cells {
		if !c.Used {
			is = append(is, at)
		}
	}
	return slices.Equal(slices.Sorted(slices.Values(free)), is)
}

// P12.1: all lists Free of up to four numbers, with up to three cells, used or not.
func TestMayFree(t *testing.T) {
	var lists [][]int
	for row := [][]int{nil}; len(row[0]) <= 4; {
		lists = append(lists, row...)
		var longer [][]int
		for _, l := range row {
			for n := -1; n <= 3; n++ {
				longer = append(longer, append(slices.Clone(l), n))
			}
		}
		row = longer
	}
	valid := 0
	for many := range 4 {
		for which := range 1 << many {
			p := of(3, nil)
			for at := range many {
				p.Cells = append(p.Cells, api.Cell{Used: which>>at&1 != 0, Gen: at, Frame: task(at)})
			}
			for _, p.Free = range lists {
				is := tellsFree(p.Free, p.Cells)
				if pen.May(p) != is {
					t.Errorf("May of %s: want %v", told(p), is)
				}
				if !is {
					wantWrong(t, p)
					continue
				}
				valid++
			}
		}
	}
	if valid != 1+2+5+16 { // as many as there are orders of those that are free
		t.Errorf("%d are valid", valid)
	}
}

// P12.1, R1: far numbers in Free, and lists that are longer than all cells.
func TestMayFreeFar(t *testing.T) {
	cells := []api.Cell{unused(0, 1), used(7, 2), unused(lastGen, 3)}
	for _, n := range append([]int{1, 3, 4, 1024, 1025}, far...) {
		wantWrong(t, of(5, []int{n}, cells...))
		wantWrong(t, of(5, []int{0, n}, cells...))
		wantWrong(t, of(5, []int{n, 2}, cells...))
		wantWrong(t, of(5, []int{0, 2, n}, cells...))
		wantWrong(t, of(5, []int{n}))
	}
	for _, many := range []int{3, 1024, 1025, 1 << 16, 1 << 20} {
		wantWrong(t, of(5, make([]int, many), cells...))
		wantWrong(t, of(1024, make([]int, many)))
	}
	var all []int
	p := of(maxFrames, nil)
	for at := range maxFrames {
		p.Cells, all = append(p.Cells, bare(at)), append(all, (at*5+3)%maxFrames)
	}
	for _, last := range all {
		p.Free = append(slices.Clone(all[:1023]), last)
		if is := last == all[1023]; pen.May(p) != is {
			t.Errorf("1024 cells that are not used, with %d at the end: want %v", last, is)
		}
	}
}

// P12.1: which cell a ref has.
func TestGet(t *testing.T) {
	p := of(9, []int{1, 3}, used(0, 1), unused(0, 2), used(7, 3), bare(7), used(lastGen, 5), used(1, 6))
	cells := map[api.Ref]int{{At: 0}: 1, {At: 2, Gen: 7}: 3, {At: 4, Gen: lastGen}: 5, {At: 5, Gen: 1}: 6}
	numbers := append([]int{0, 1, 2, 3, 4, 5, 6, 7, 8, 9, 255, 256, 257, 258, 1 << 16, 1<<16 + 2, lastGen - 1, lastGen, 1<<32 + 7}, far...)
	found := 0
	for _, at := range numbers {
		for _, gen := range numbers {
			r := api.Ref{At: at, Gen: gen}
			n, is := cells[r]
			if !is {
				wantStale(t, p, r)
				continue
			}
			found++
			wantGet(t, p, r, task(n), true)
		}
	}
	if found != len(cells) {
		t.Errorf("%d refs have cells", found)
	}
	wantStale(t, of(1, nil), api.Ref{})
	wantStale(t, of(1, nil), api.Ref{At: -1})
	wantStale(t, of(1, []int{0}, bare(0)), api.Ref{})
	wantStale(t, of(1, []int{0}, unused(0, 1)), api.Ref{})
}

// P12.1: the refs of all cells that are used, in their places' order, whatever stands in Free.
func TestRefs(t *testing.T) {
	wantRefs(t, of(5, nil))
	wantRefs(t, of(5, nil, used(0, 1)), api.Ref{})
	wantRefs(t, of(5, []int{0}, bare(0)))
	wantRefs(t, of(5, []int{2, 0, 1}, bare(4), unused(5, 5), bare(6)))
	wantRefs(t, of(5, []int{2, 0}, bare(4), used(lastGen, 5), bare(6)), api.Ref{At: 1, Gen: lastGen})
	wantRefs(t, of(5, []int{1}, used(9, 4), bare(5), used(0, 1), used(3, 3)), api.Ref{At: 0, Gen: 9}, api.Ref{At: 2}, api.Ref{At: 3, Gen: 3})
	p, is := of(maxFrames, nil), []api.Ref(nil)
	for at := range maxFrames {
		p.Cells = append(p.Cells, used(2*at, 0))
		is = append(is, api.Ref{At: at, Gen: 2 * at})
	}
	wantRefs(t, p, is...)
}

func wantSame(t *testing.T, a, b api.Pen, is bool) {
	t.Helper()
	if pen.Same(a, b) != is || pen.Same(b, a) != is {
		t.Errorf("Same of %s\nand %s: want %v", told(a), told(b), is)
	}
}

// P12.1: a change of any one field is told, whether the pens are valid or not.
func TestSame(t *testing.T) {
	some := func() api.Pen {
		return of(5, []int{3, 1}, used(0, 1), unused(4, 2), used(lastGen, 3), bare(4))
	}
	change := []func(p *api.Pen){
		func(p *api.Pen) { p.Most++ },
		func(p *api.Pen) { p.Most += 1 << 32 },
		func(p *api.Pen) { p.Free = []int{1, 3} },
		func(p *api.Pen) { p.Free = []int{3} },
		func(p *api.Pen) { p.Free = nil },
		func(p *api.Pen) { p.Free = []int{3, 1, 0} },
		func(p *api.Pen) { p.Free[0] -= 1 << 32 },
		func(p *api.Pen) { p.Cells = nil },
		func(p *api.Pen) { p.Cells = p.Cells[:3] },
		func(p *api.Pen) { p.Cells = p.Cells[1:] },
		func(p *api.Pen) { p.Cells = append(p.Cells, api.Cell{}) },
		func(p *api.Pen) { slices.Reverse(p.Cells) },
	}
	for at := range some().Cells {
		change = append(change,
			func(p *api.Pen) { p.Cells[at].Gen++ },
			func(p *api.Pen) { p.Cells[at].Gen -= 1 << 32 },
			func(p *api.Pen) { p.Cells[at].Used = !p.Cells[at].Used },
			func(p *api.Pen) { p.Cells[at].Frame = task(77) },
			func(p *api.Pen) { p.Cells[at].Frame.UpSlot++ },
			func(p *api.Pen) { p.Cells[at].Frame.Stack = append(p.Cells[at].Frame.Stack, api.Value{}) },
			func(p *api.Pen) { p.Cells[at].Frame.Slots = append(p.Cells[at].Frame.Slots, api.Slot{}) },
		)
	}
	for _, c := range change {
		p, q := some(), some()
		c(&p)
		wantSame(t, p, some(), false)
		c(&q)
		wantSame(t, p, q, true)
	}
	wantSame(t, some(), some(), true)
	wantSame(t, of(1, []int{0, 0}), of(1, []int{0, 0}), true)
	wantSame(t, of(-1, nil, used(-1, 1)), of(-1, nil, used(-1, 1)), true)
}

// P12.1, R5: empty lists and none are the same.
func TestSameEmpty(t *testing.T) {
	wantSame(t, api.Pen{}, api.Pen{Cells: []api.Cell{}, Free: []int{}}, true)
	wantSame(t, of(3, make([]int, 0, 9)), api.Pen{Most: 3, Cells: make([]api.Cell, 0, 4)}, true)
	empty := api.Frame{Stack: []api.Value{}, Locals: []api.Value{}, Slots: []api.Slot{}}
	wantSame(t, of(3, nil, api.Cell{Used: true, Frame: empty}), of(3, []int{}, api.Cell{Used: true}), true)
	wantSame(t, of(3, nil, bare(0)), of(3, nil), false)
	for _, free := range [][]int{nil, {}, make([]int, 0, 2)} {
		for _, cells := range [][]api.Cell{nil, {}, make([]api.Cell, 0, 2)} {
			p := api.Pen{Most: 3, Free: free, Cells: cells}
			wantRefs(t, p)
			wantStale(t, p, api.Ref{})
			wantLay(t, p, empty, of(3, nil, api.Cell{Used: true}), api.Ref{}, ok)
			wantWrong(t, api.Pen{Free: free, Cells: cells})
		}
	}
}

// P12.2: written-out pens: which cell is taken, and what becomes of Free.
func TestLay(t *testing.T) {
	f := task(9)
	in := func(gen int) api.Cell { return used(gen, 9) }
	for _, c := range []struct {
		p, is api.Pen
		r     api.Ref
	}{
		{of(3, nil), of(3, nil, in(0)), api.Ref{}},
		{of(1, nil), of(1, nil, in(0)), api.Ref{}},
		{of(3, nil, used(5, 1)), of(3, nil, used(5, 1), in(0)), api.Ref{At: 1}},
		{of(3, nil, used(5, 1), used(5, 2)), of(3, nil, used(5, 1), used(5, 2), in(0)), api.Ref{At: 2}},
		{of(3, []int{0}, bare(4)), of(3, nil, in(4)), api.Ref{Gen: 4}},
		{of(3, []int{0}, unused(4, 7)), of(3, nil, in(4)), api.Ref{Gen: 4}},                                                                             // what was there is gone
		{of(1, []int{0}, bare(lastGen)), of(1, nil, in(lastGen)), api.Ref{Gen: lastGen}},                                                                // Most cells, but not all are used
		{of(3, []int{0, 1}, bare(4), bare(6)), of(3, []int{0}, bare(4), in(6)), api.Ref{At: 1, Gen: 6}},                                                 // the last one of Free
		{of(3, []int{1, 0}, bare(4), bare(6)), of(3, []int{1}, in(4), bare(6)), api.Ref{Gen: 4}},                                                        // not the one with the greatest index
		{of(3, []int{2, 0, 1}, bare(4), bare(6), bare(8)), of(3, []int{2, 0}, bare(4), in(6), bare(8)), api.Ref{At: 1, Gen: 6}},                         // nor the one with the smallest
		{of(3, []int{1, 2, 0}, unused(4, 4), unused(6, 6), bare(8)), of(3, []int{1, 2}, in(4), unused(6, 6), bare(8)), api.Ref{At: 0, Gen: 4}},          // the others stay
		{of(3, []int{1}, used(4, 9), unused(0, 9), used(8, 9)), of(3, nil, used(4, 9), in(0), used(8, 9)), api.Ref{At: 1}},                              // the same frame once more
		{of(9, []int{2}, used(4, 4), used(6, 6), bare(8)), of(9, nil, used(4, 4), used(6, 6), in(8)), api.Ref{At: 2, Gen: 8}},                           // no new cell as long as one is free
		{of(1024, []int{1}, used(lastGen, 4), bare(lastGen)), of(1024, nil, used(lastGen, 4), in(lastGen)), api.Ref{At: 1, Gen: lastGen}},               // the last generation
		{of(4, nil, used(1, 1), used(1, 1), used(1, 1)), of(4, nil, used(1, 1), used(1, 1), used(1, 1), in(0)), api.Ref{At: 3}},                         // a new cell has generation 0
		{of(2, []int{1}, used(3, 1), unused(3, 1)), of(2, nil, used(3, 1), in(3)), api.Ref{At: 1, Gen: 3}},                                              // the generation stays
		{of(5, []int{3, 1}, used(1, 1), bare(2), used(3, 3), bare(4)), of(5, []int{3}, used(1, 1), in(2), used(3, 3), bare(4)), api.Ref{At: 1, Gen: 2}}, // between others
		{of(5, []int{1, 3}, used(1, 1), bare(2), used(3, 3), bare(4)), of(5, []int{1}, used(1, 1), bare(2), used(3, 3), in(4)), api.Ref{At: 3, Gen: 4}},
	} {
		wantLay(t, c.p, f, c.is, c.r, ok)
		wantGet(t, c.is, c.r, f, true)
	}
}

// P12.2: there may be Most frames, and not one more.
func TestLayFull(t *testing.T) {
	for _, most := range []int{1, 2, 3, 7, 255, 256, 257, 1023, 1024} {
		p, _ := pen.New(most)
		for n := range most {
			q, r, e := pen.Lay(p, task(n))
			if e != ok || r != (api.Ref{At: n}) || len(q.Cells) != n+1 || len(q.Free) != 0 || q.Most != most {
				t.Fatalf("frame %d of %d: %v, error %d, %s", n, most, r, e, told(q))
			}
			p = q
		}
		if !pen.May(p) || len(pen.Refs(p)) != most {
			t.Errorf("%s is full", told(p))
		}
		wantLay(t, p, task(most), p, api.Ref{}, errFrames)
		at := most / 2
		wantGet(t, p, api.Ref{At: at}, task(at), true)
		q, _ := pen.Drop(p, api.Ref{At: at})
		q, r, e := pen.Lay(q, task(77))
		if e != ok || r != (api.Ref{At: at, Gen: 1}) {
			t.Errorf("%v, error %d", r, e)
		}
		wantLay(t, q, task(78), q, api.Ref{}, errFrames)
	}
	wantLay(t, of(1, nil, used(lastGen, 1)), task(2), of(1, nil, used(lastGen, 1)), api.Ref{}, errFrames)
}

// P12.2: written-out pens whose frames are replaced.
func TestSet(t *testing.T) {
	p := of(9, []int{3, 1}, used(0, 1), unused(5, 2), used(lastGen, 3), bare(5), used(5, 5))
	f := task(9)
	wantSet(t, p, api.Ref{}, f, of(9, []int{3, 1}, used(0, 9), unused(5, 2), used(lastGen, 3), bare(5), used(5, 5)), ok)
	wantSet(t, p, api.Ref{At: 2, Gen: lastGen}, f, of(9, []int{3, 1}, used(0, 1), unused(5, 2), used(lastGen, 9), bare(5), used(5, 5)), ok)
	wantSet(t, p, api.Ref{At: 4, Gen: 5}, f, of(9, []int{3, 1}, used(0, 1), unused(5, 2), used(lastGen, 3), bare(5), used(5, 9)), ok)
	wantSet(t, p, api.Ref{At: 4, Gen: 5}, task(5), p, ok)
	wantSet(t, p, api.Ref{}, api.Frame{}, of(9, []int{3, 1}, api.Cell{Used: true}, unused(5, 2), used(lastGen, 3), bare(5), used(5, 5)), ok)
	for _, r := range []api.Ref{{At: 1, Gen: 5}, {At: 3, Gen: 5}, {At: 5}, {At: -1}, {Gen: 1}, {Gen: lastGen}, {At: 2, Gen: -1}, {At: 2}, {At: 4, Gen: 4}, {At: 4, Gen: 6}, {At: 9}, {At: 5, Gen: 5}} {
		wantStale(t, p, r)
	}
}

// P12.2: written-out pens whose frames are dropped.
func TestDrop(t *testing.T) {
	p := of(9, []int{3, 1}, used(0, 1), unused(5, 2), used(lastGen, 3), bare(5), used(5, 5))
	wantDrop(t, p, api.Ref{}, of(9, []int{3, 1, 0}, bare(1), unused(5, 2), used(lastGen, 3), bare(5), used(5, 5)), ok)
	wantDrop(t, p, api.Ref{At: 2, Gen: lastGen}, of(9, []int{3, 1, 2}, used(0, 1), unused(5, 2), bare(0), bare(5), used(5, 5)), ok)
	wantDrop(t, p, api.Ref{At: 4, Gen: 5}, of(9, []int{3, 1, 4}, used(0, 1), unused(5, 2), used(lastGen, 3), bare(5), bare(6)), ok)
	wantDrop(t, of(1, nil, used(0, 1)), api.Ref{}, of(1, []int{0}, bare(1)), ok)
	for _, gen := range []int{0, 1, 250, 255, 256, 65535, 1<<31 - 1, 1 << 31, lastGen - 2, lastGen - 1} {
		wantDrop(t, of(2, nil, used(3, 3), used(gen, 1)), api.Ref{At: 1, Gen: gen}, of(2, []int{1}, used(3, 3), bare(gen+1)), ok)
	}
	wantDrop(t, of(2, nil, used(3, 3), used(lastGen, 1)), api.Ref{At: 1, Gen: lastGen}, of(2, []int{1}, used(3, 3), bare(0)), ok)
}

// P12.2: a frame may be anything, and comes back as it is.
func TestAnyFrame(t *testing.T) {
	odd := []api.Frame{
		{}, task(-1), task(math.MaxInt - 20), task(math.MinInt), {State: 99, Pc: -5},
		{Stack: make([]api.Value, 5000), Locals: make([]api.Value, 17), Slots: make([]api.Slot, 900)},
	}
	for _, f := range odd {
		p, r, e := pen.Lay(of(2, nil, used(1, 1)), f)
		if e != ok || !pen.May(p) {
			t.Errorf("Lay of %v: error %d", f, e)
		}
		wantGet(t, p, r, f, true)
		for _, g := range odd {
			q, e := pen.Set(p, r, g)
			if e != ok {
				t.Errorf("Set of %v: error %d", g, e)
			}
			wantGet(t, q, r, g, true)
			wantGet(t, q, api.Ref{Gen: 1}, task(1), true)
			wantDrop(t, q, r, of(2, []int{1}, used(1, 1), bare(1)), ok)
		}
	}
}

// P12.2: that a pen is not valid is told ahead of what its cells are.
func TestErrorsInOrder(t *testing.T) {
	for _, p := range []api.Pen{
		{}, of(0, nil, used(0, 1)), of(1, nil, used(0, 1), used(0, 2)), of(1025, nil, used(0, 1)), of(-1, nil),
		of(1, []int{0}, used(0, 1)), of(1, nil, bare(0)), of(1, []int{0, 0}, bare(0)), of(1, []int{1}, bare(0)), of(2, []int{0}, bare(0), bare(0)),
		of(1, nil, used(-1, 1)), of(1, nil, used(1<<32, 1)), of(2, []int{1}, used(0, 1), bare(1<<32)), of(1, []int{0}), of(1, []int{-1}, bare(0)),
	} {
		wantWrong(t, p)
	}
}
