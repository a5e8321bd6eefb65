package pen_test

import (
	"fmt"
	"slices"
	"sync"
	"testing"
	"transhumance/api"
	"transhumance/frame"
	"transhumance/pen"
)

// dice draws numbers, always the same ones.
type dice uint64

// below draws a number from 0 to many - 1.
func (d *dice) below(many int) int {
	*d = *d*6364136223846793005 + 1442695040888963407
	return int(uint64(*d)>>33) % many
}

func (d *dice) values() []api.Value {
	var l []api.Value
	for range d.below(4) {
		l = append(l, api.Value{Re: d.below(1000) - 1, Im: d.below(1000) - 1})
	}
	return l
}

// frame draws a frame, of which nothing has to fit.
func (d *dice) frame() api.Frame {
	f := task(d.below(1000) - 500)
	f.Stack, f.Locals, f.Slots = d.values(), d.values(), f.Slots[:d.below(3)]
	return f
}

// gen draws a generation, often one of the last ones.
func (d *dice) gen() int {
	if d.below(3) == 0 {
		return lastGen - d.below(2)
	}
	return d.below(4)
}

// pen draws a valid pen with up to as many cells.
func (d *dice) pen(many int) api.Pen {
	p := of(1, nil)
	for at := range d.below(many + 1) {
		c := api.Cell{Gen: d.gen(), Used: d.below(3) > 0}
		if c.Used || d.below(3) == 0 {
			c.Frame = d.frame()
		}
		if p.Cells = append(p.Cells, c); !c.Used {
			p.Free = slices.Insert(p.Free, d.below(len(p.Free)+1), at)
		}
	}
	p.Most = min(maxFrames, max(1, len(p.Cells)+d.below(4)))
	return p
}

// anything draws a pen of which one number or all may be wrong.
func (d *dice) anything() api.Pen {
	p := d.pen(6)
	near := func() int { return d.below(len(p.Cells)+4) - 2 }
	switch d.below(9) {
	case 0:
		p.Most = near()
	case 1:
		p.Most = d.far()
	case 2:
		p.Free = append(p.Free, near())
	case 3:
		p.Free = p.Free[:d.below(len(p.Free)+1)]
	case 4:
		for at := range p.Free {
			p.Free[at] = near()
		}
	case 5:
		for at := range p.Cells {
			p.Cells[at].Gen = d.far()
		}
	case 6:
		if many := len(p.Cells); many > 0 {
			c := &p.Cells[d.below(many)]
			c.Used = !c.Used
		}
	}
	return p
}

func (d *dice) far() int {
	return far[d.below(len(far))]
}

// ref draws a ref that is near those of the cells of p, or one of them.
func (d *dice) ref(p api.Pen) api.Ref {
	at := d.below(len(p.Cells)+2) - 1
	if at < 0 || at >= len(p.Cells) || d.below(4) == 0 {
		return api.Ref{At: at, Gen: d.gen()}
	}
	return api.Ref{At: at, Gen: p.Cells[at].Gen + d.below(10)/8 - d.below(10)/8}
}

// isValid is what the chapter calls a valid pen.
func isValid(p api.Pen) bool {
	for _, c := range p.Cells {
		if c.Gen < 0 || c.Gen > lastGen {
			return false
		}
	}
	return p.Most >= 1 && p.Most <= maxFrames && len(p.Cells) <= p.Most && tellsFree(p.Free, p.Cells)
}

// model is a pen as its users know it: what each ref that has a cell is the ref of; and, of each place, the generation, the frame that lies there unused, and the places in the order of Free.
type model struct {
	most int
	live map[api.Ref]api.Frame
	gens []int
	rest map[int]api.Frame
	free []int
}

// modelled is the model of a valid pen.
func modelled(p api.Pen) model {
	m := model{most: p.Most, live: map[api.Ref]api.Frame{}, rest: map[int]api.Frame{}, free: slices.Clone(p.Free)}
	for at, c := range p.Cells {
		m.gens = append(m.gens, c.Gen)
		if c.Used {
			m.live[api.Ref{At: at, Gen: c.Gen}] = c.Frame
		} else {
			m.rest[at] = c.Frame
		}
	}
	return m
}

// pen is the pen that m is the model of.
func (m *model) pen() api.Pen {
	p := of(m.most, slices.Clone(m.free))
	for at, gen := range m.gens {
		f, isUsed := m.live[api.Ref{At: at, Gen: gen}]
		if !isUsed {
			f = m.rest[at]
		}
		p.Cells = append(p.Cells, api.Cell{Gen: gen, Used: isUsed, Frame: f})
	}
	return p
}

func (m *model) lay(f api.Frame) (api.Ref, api.Errno) {
	at := len(m.gens)
	switch many := len(m.free); {
	case len(m.live) == m.most:
		return api.Ref{}, errFrames
	case many > 0:
		at = m.free[many-1]
		m.free = m.free[:many-1]
		delete(m.rest, at)
	default:
		m.gens = append(m.gens, 0)
	}
	r := api.Ref{At: at, Gen: m.gens[at]}
	m.live[r] = f
	return r, ok
}

func (m *model) set(r api.Ref, f api.Frame) api.Errno {
	if _, is := m.live[r]; !is {
		return errStale
	}
	m.live[r] = f
	return ok
}

func (m *model) drop(r api.Ref) api.Errno {
	if _, is := m.live[r]; !is {
		return errStale
	}
	delete(m.live, r)
	m.free = append(m.free, r.At)
	if m.gens[r.At]++; m.gens[r.At] > lastGen {
		m.gens[r.At] = 0
	}
	return ok
}

// wantAlike: p is as m tells, and the frames of all refs that have a cell are what it tells.
func wantAlike(t *testing.T, p api.Pen, m *model) {
	t.Helper()
	if !pen.May(p) {
		t.Errorf("%s is valid", told(p))
	}
	var is []api.Ref
	for r, f := range m.live {
		wantGet(t, p, r, f, true)
		is = append(is, r)
	}
	slices.SortFunc(is, func(a, b api.Ref) int { return a.At - b.At })
	wantRefs(t, p, is...)
}

// wantDone does one of the operations on p and on m, and returns what becomes of p.
func wantDone(t *testing.T, p api.Pen, m *model, what int, r api.Ref, f api.Frame) api.Pen {
	t.Helper()
	q := p
	switch what {
	case 0:
		is, e := m.lay(f)
		wantLay(t, p, f, m.pen(), is, e)
		q, _, _ = pen.Lay(p, f)
	case 1:
		e := m.set(r, f)
		wantSet(t, p, r, f, m.pen(), e)
		q, _ = pen.Set(p, r, f)
	case 2:
		e := m.drop(r)
		wantDrop(t, p, r, m.pen(), e)
		q, _ = pen.Drop(p, r)
	default:
		is, found := m.live[r]
		wantGet(t, p, r, is, found)
	}
	wantAlike(t, q, m)
	return q
}

// P12.1 to P12.3: all orders of up to six operations, with small pens, and the refs of all generations that come about.
func TestAllOrders(t *testing.T) {
	for most := 1; most < 4; most++ {
		p, _ := pen.New(most)
		wantOrders(t, p, most, 6)
	}
	wantOrders(t, of(3, []int{1}, used(lastGen, 1), unused(lastGen, 2)), 3, 5)
}

// wantOrders does all orders of that many operations.
func wantOrders(t *testing.T, p api.Pen, places, many int) {
	t.Helper()
	if many == 0 || t.Failed() {
		return
	}
	m := modelled(p)
	wantOrders(t, wantDone(t, p, &m, 0, api.Ref{}, task(many)), places, many-1)
	for at := range places + 1 {
		for _, gen := range []int{0, 1, 2, lastGen} {
			for what := 1; what <= 3; what++ {
				m := modelled(p)
				q := wantDone(t, p, &m, what, api.Ref{At: at, Gen: gen}, task(many))
				if !pen.Same(q, p) { // all that can come of p itself is tried anyway
					wantOrders(t, q, places, many-1)
				}
			}
		}
	}
}

// P12.1 to P12.3: long rows of operations, drawn, from pens on that are drawn.
func TestDrawn(t *testing.T) {
	d := dice(1)
	done, grown, full, again := map[int]int{}, 0, 0, 0
	for range 300 {
		p := d.pen([]int{0, 3, 10, 30}[d.below(4)])
		p.Most += d.below(8)
		m := modelled(p)
		for range 100 {
			what := d.below(5) % 4
			before := p
			p = wantDone(t, p, &m, what, d.ref(p), d.frame())
			switch {
			case what > 0 && !pen.Same(p, before):
				done[what]++
			case len(p.Cells) > len(before.Cells):
				grown++
			case len(p.Free) < len(before.Free):
				again++
			case what == 0:
				full++
			}
		}
		if t.Failed() {
			return
		}
	}
	if done[1] < 2000 || done[2] < 2000 || grown < 800 || full < 2000 || again < 2000 {
		t.Errorf("%v operations, %d new cells, %d taken again, %d times full", done, grown, again, full)
	}
}

// P12.1, P12.2, R1: pens that are drawn, most of them with something wrong.
func TestAnything(t *testing.T) {
	d := dice(2)
	valid := 0
	for range 20000 {
		p := d.anything()
		if !isValid(p) {
			wantWrong(t, p)
			continue
		}
		valid++
		m := modelled(p)
		wantAlike(t, p, &m)
		wantDone(t, p, &m, d.below(3), d.ref(p), d.frame())
	}
	if valid < 5000 || valid > 15000 {
		t.Errorf("%d are valid", valid)
	}
}

// P12.1: which pens are the same, of pens that differ little.
func TestSameDrawn(t *testing.T) {
	d := dice(3)
	alike := 0
	for range 20000 {
		p := d.anything()
		q := roomy(p)
		switch d.below(4) {
		case 0:
			q.Most = p.Most + d.below(2)
		case 1:
			for at := range q.Cells {
				q.Cells[at].Gen += d.below(8) / 7
			}
		case 2:
			if many := len(q.Cells); many > 0 {
				q.Cells[d.below(many)] = p.Cells[d.below(many)]
			}
		}
		if wantSame(t, p, q, equal(p, q)); equal(p, q) {
			alike++
		}
	}
	if alike < 8000 || alike > 19000 {
		t.Errorf("%d are alike", alike)
	}
}

// P12.3: a ref whose cell was dropped has none, however often the cell is used again; a frame that is there is found by its ref, whatever is done with the others.
func TestStale(t *testing.T) {
	p, _ := pen.New(4)
	p, kept, _ := pen.Lay(p, task(1000))
	var gone []api.Ref
	for n := range 300 {
		q, a, e := pen.Lay(p, task(n))
		if e != ok || a != (api.Ref{At: 1, Gen: n}) {
			t.Fatalf("turn %d: %v, error %d", n, a, e)
		}
		q, b, _ := pen.Lay(q, task(-n))
		q, _ = pen.Set(q, b, task(n+1))
		for _, r := range gone {
			wantGet(t, q, r, api.Frame{}, false)
		}
		if n%50 == 0 && n > 0 {
			wantStale(t, q, gone[0])
			wantStale(t, q, gone[n-1])
		}
		wantGet(t, q, kept, task(1000), true)
		wantGet(t, q, a, task(n), true)
		wantGet(t, q, b, task(n+1), true)
		q, _ = pen.Drop(q, b)
		wantGet(t, q, a, task(n), true)
		p, _ = pen.Drop(q, a)
		wantGet(t, p, kept, task(1000), true)
		gone = append(gone, a, b)
	}
	p, e := pen.Drop(p, kept)
	wantStale(t, p, kept)
	if gone = append(gone, kept); e != ok || len(pen.Refs(p)) != 0 || len(p.Cells) != 3 {
		t.Errorf("error %d, %s", e, told(p))
	}
	for _, r := range gone {
		wantGet(t, p, r, api.Frame{}, false)
	}
}

// P12.3: what is done to one frame of a large pen leaves all others as they are.
func TestOthersKept(t *testing.T) {
	p, _ := pen.New(maxFrames)
	for n := range maxFrames {
		p, _, _ = pen.Lay(p, task(n))
	}
	for _, at := range []int{0, 1, 255, 256, 511, 512, 1022, 1023} {
		set, _ := pen.Set(p, api.Ref{At: at}, task(-1))
		dropped, _ := pen.Drop(p, api.Ref{At: at})
		again, _, _ := pen.Lay(dropped, task(-1))
		for _, q := range []api.Pen{set, dropped, again} {
			for n := range maxFrames {
				if c := q.Cells[n]; n != at && (c.Gen != 0 || !c.Used || !frame.Same(c.Frame, task(n))) {
					t.Errorf("cell %d changed with cell %d", n, at)
				}
			}
		}
		wantGet(t, set, api.Ref{At: at}, task(-1), true)
		wantGet(t, again, api.Ref{At: at, Gen: 1}, task(-1), true)
		wantStale(t, dropped, api.Ref{At: at})
		wantStale(t, again, api.Ref{At: at})
	}
}

// wide is l with a mark behind it in its memory.
func wide[T any](l []T, mark T) []T {
	return append(slices.Clone(l), mark)[:len(l)]
}

// roomyFrame is f in other memory, with marks behind its lists.
func roomyFrame(f api.Frame) api.Frame {
	f.Stack, f.Locals = wide(f.Stack, api.Value{Re: -77}), wide(f.Locals, api.Value{Re: -78})
	f.Slots = wide(f.Slots, api.Slot{State: -79})
	return f
}

// roomy is p in other memory, with marks behind all its lists.
func roomy(p api.Pen) api.Pen {
	p.Cells, p.Free = wide(p.Cells, api.Cell{Gen: -80}), wide(p.Free, -81)
	for at := range p.Cells {
		p.Cells[at].Frame = roomyFrame(p.Cells[at].Frame)
	}
	return p
}

// whole tells all of p with the memory behind its lists.
func whole(p api.Pen) string {
	s := fmt.Sprint(p.Most, p.Cells[:cap(p.Cells)], p.Free[:cap(p.Free)])
	for _, c := range p.Cells {
		s += wholeFrame(c.Frame)
	}
	return s
}

func wholeFrame(f api.Frame) string {
	return fmt.Sprint(f, f.Stack[:cap(f.Stack)], f.Locals[:cap(f.Locals)], f.Slots[:cap(f.Slots)])
}

// cover writes over all the memory of l.
func cover[T any](l []T, mark T) {
	l = l[:cap(l)]
	for i := range l {
		l[i] = mark
	}
}

func scribbleFrame(f api.Frame) {
	cover(f.Stack, api.Value{Re: -99})
	cover(f.Locals, api.Value{Re: -98})
	cover(f.Slots, api.Slot{State: -97})
}

// scribble writes over all the memory of p.
func scribble(p api.Pen) {
	for _, c := range p.Cells {
		scribbleFrame(c.Frame)
	}
	cover(p.Cells, api.Cell{Gen: -96})
	cover(p.Free, -95)
}

// results are the pens that the calls make of p, r and f; the last one holds the frame and the refs that they make.
func results(p api.Pen, r api.Ref, f api.Frame) []api.Pen {
	a, x, _ := pen.Lay(p, f)
	b, _ := pen.Set(p, r, f)
	c, _ := pen.Drop(p, r)
	g, _ := pen.Get(p, r)
	last := of(x.At, nil, api.Cell{Gen: x.Gen, Frame: g, Used: pen.May(p)})
	for _, y := range pen.Refs(p) {
		last.Cells = append(last.Cells, bare(y.At), bare(y.Gen))
	}
	return []api.Pen{a, b, c, last}
}

// R4: no call changes what it is given, nor what stands behind it in its memory.
func TestArgumentsKept(t *testing.T) {
	d := dice(4)
	for range 3000 {
		p, f := roomy(d.anything()), roomyFrame(d.frame())
		isPen, isFrame := whole(p), wholeFrame(f)
		results(p, d.ref(p), f)
		pen.Same(p, p)
		if whole(p) != isPen || wholeFrame(f) != isFrame {
			t.Fatalf("%s, now %s\n%s, now %s", isPen, whole(p), isFrame, wholeFrame(f))
		}
	}
}

// R4: no result shares memory with an argument or with another result.
func TestMemoryApart(t *testing.T) {
	d := dice(5)
	for range 2000 {
		p, f := roomy(d.anything()), roomyFrame(d.frame())
		r := d.ref(p)
		l := results(p, r, f)
		var before []string
		for _, q := range l {
			before = append(before, fmt.Sprint(q))
		}
		isPen, isFrame := whole(p), wholeFrame(f)
		for i, q := range l {
			scribble(q)
			if whole(p) != isPen || wholeFrame(f) != isFrame {
				t.Fatalf("%s, %v: changed with the result %d", told(p), f, i)
			}
			for j := i + 1; j < len(l); j++ {
				if fmt.Sprint(l[j]) != before[j] {
					t.Fatalf("of %s: the result %d was changed with the result %d", told(p), j, i)
				}
			}
		}
		l = results(p, r, f)
		scribble(p)
		scribbleFrame(f)
		for i, q := range l {
			if fmt.Sprint(q) != before[i] {
				t.Fatalf("the result %d was changed with what was given", i)
			}
		}
	}
}

// R4: the lists of a result are apart, even if those that were given are not.
func TestListsApart(t *testing.T) {
	l := []api.Value{{Re: 1}, {Re: 2}, {Re: 3}}
	slots := make([]api.Slot, 2)
	f := api.Frame{Stack: l, Locals: l[1:], Slots: slots}
	p := of(3, nil, api.Cell{Used: true, Frame: f}, api.Cell{Used: true, Frame: f})
	is := fmt.Sprint(f)
	q, _, _ := pen.Lay(p, f)
	set, _ := pen.Set(p, api.Ref{At: 1}, f)
	dropped, _ := pen.Drop(p, api.Ref{At: 1})
	for _, q := range []api.Pen{q, set, dropped} {
		cover(q.Cells[0].Frame.Stack, api.Value{Re: -99})
		cover(q.Cells[0].Frame.Slots, api.Slot{State: -99})
		if fmt.Sprint(q.Cells[0].Frame.Locals) != fmt.Sprint(l[1:]) {
			t.Errorf("locals %v, want %v", q.Cells[0].Frame.Locals, l[1:])
		}
		for _, c := range q.Cells[1:] {
			if c.Used && fmt.Sprint(c.Frame) != is {
				t.Errorf("%v, want %s", c.Frame, is)
			}
		}
	}
	g, _ := pen.Get(p, api.Ref{})
	if cover(g.Stack, api.Value{Re: -99}); fmt.Sprint(g.Locals) != fmt.Sprint(l[1:]) || fmt.Sprint(f) != is {
		t.Errorf("%v, %v", g, f)
	}
}

// R3: the same results again, after other calls, and beside them.
func TestAgain(t *testing.T) {
	d := dice(6)
	var all sync.WaitGroup
	for range 300 {
		p, f := d.anything(), d.frame()
		r := d.ref(p)
		is := results(p, r, f)
		for range 3 {
			all.Add(1)
			go func() {
				defer all.Done()
				if !slices.EqualFunc(results(p, r, f), is, equal) {
					t.Errorf("%s with %v: other results", told(p), r)
				}
			}()
		}
	}
	all.Wait()
}

// P12.1 to P12.3, R1: whatever the numbers of a pen are, and whatever is done with it.
func FuzzPens(f *testing.F) {
	f.Add(uint64(1), 4, 9, 0, []byte{0, 0, 2, 1, 0, 6, 2, 3, 200})
	f.Add(uint64(2), 0, 1024, -1, []byte{0, 0, 0, 0, 255, 2, 2, 2, 1})
	f.Add(uint64(3), 20, 20, lastGen, []byte{2, 0, 2, 0, 2, 0, 1})
	f.Add(uint64(4), 5, -1, 1<<32, []byte{0, 1, 2, 3})
	f.Fuzz(func(t *testing.T, dicing uint64, many, most, gen int, bytes []byte) {
		d := dice(dicing)
		p := d.pen(min(max(many, 0), 50))
		p.Most = most
		if len(p.Cells) > 0 && gen != 0 {
			p.Cells[0].Gen = gen
		}
		if !isValid(p) {
			wantWrong(t, p)
			p = d.pen(20)
		}
		m := modelled(p)
		for _, b := range bytes[:min(200, len(bytes))] {
			p = wantDone(t, p, &m, int(b%4), d.ref(p), d.frame())
		}
	})
}
