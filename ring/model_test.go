package ring_test

import (
	"slices"
	"sync"
	"testing"
	"transhumance/api"
	"transhumance/ring"
)

// dice draws numbers, always the same ones.
type dice uint64

// below draws a number from 0 to many - 1.
func (d *dice) below(many int) int {
	*d = *d*6364136223846793005 + 1442695040888963407
	return int(uint64(*d)>>33) % many
}

// refs draws that many refs.
func (d *dice) refs(many int) []api.Ref {
	var l []api.Ref
	for range many {
		l = append(l, api.Ref{At: d.below(1000) - 1, Gen: d.below(5)})
	}
	return l
}

// ring draws a valid ring that may have as many items.
func (d *dice) ring(most int) api.Ring {
	most = 1 + d.below(most)
	room := 1 + d.below(most)
	return api.Ring{Buf: d.refs(room), Head: d.below(room), Many: d.below(room + 1), Most: most}
}

// anything draws a ring of which one number or all may be wrong.
func (d *dice) anything() api.Ring {
	r := d.ring(12)
	near := func() int { return d.below(len(r.Buf)+4) - 2 }
	switch d.below(8) {
	case 0:
		r.Head = near()
	case 1:
		r.Many = near()
	case 2:
		r.Most = near()
	case 3:
		r.Buf = r.Buf[:d.below(len(r.Buf)+1)]
	case 4:
		r.Head, r.Many, r.Most = near(), near(), near()
	case 5:
		r.Head, r.Many, r.Most = d.far(), d.far(), d.far()
	}
	return r
}

func (d *dice) far() int {
	return far[d.below(len(far))]
}

// model is a ring as the chapter's words tell it: its buffer, and the list of its items beside it.
type model struct {
	api.Ring
	items []api.Ref
}

// modelled is the model of a valid ring; its items are found by going from index to index.
func modelled(r api.Ring) model {
	m := model{Ring: r}
	m.Buf = slices.Clone(r.Buf)
	at := r.Head
	for range r.Many {
		m.items = append(m.items, r.Buf[at])
		at = next(at, len(r.Buf))
	}
	return m
}

// next is the index that follows at in a buffer of that many refs.
func next(at, room int) int {
	if at == room-1 {
		return 0
	}
	return at + 1
}

// push appends refs at the bottom; false if they are too many.
func (m *model) push(l []api.Ref) bool {
	if len(m.items)+len(l) > m.Most {
		return false
	}
	for _, x := range l {
		if room := len(m.Buf); len(m.items) == room {
			m.Buf = slices.Clone(m.items)
			for len(m.Buf) < 2*room && len(m.Buf) < m.Most {
				m.Buf = append(m.Buf, api.Ref{})
			}
			m.Head = 0
		}
		at := m.Head
		for range m.items {
			at = next(at, len(m.Buf))
		}
		m.Buf[at] = x
		m.items = append(m.items, x)
	}
	m.Many = len(m.items)
	return true
}

func (m *model) pop() (api.Ref, bool) {
	if len(m.items) == 0 {
		return api.Ref{}, false
	}
	last := len(m.items) - 1
	x := m.items[last]
	m.items = m.items[:last]
	m.Many--
	return x, true
}

func (m *model) steal() (api.Ref, bool) {
	if len(m.items) == 0 {
		return api.Ref{}, false
	}
	x := m.items[0]
	m.items = m.items[1:]
	m.Many--
	m.Head = next(m.Head, len(m.Buf))
	return x, true
}

func (m *model) half() []api.Ref {
	var l []api.Ref
	for many := len(m.items); 2*len(l) < many; {
		x, _ := m.steal()
		l = append(l, x)
	}
	return l
}

// wantAlike: r is as m tells.
func wantAlike(t *testing.T, r api.Ring, m model) {
	t.Helper()
	if !ring.May(r) {
		t.Errorf("%s is not valid", told(r))
	}
	wantRing(t, "a ring", r, m.Ring)
	wantItems(t, r, m.items)
}

// wantDone does one of the operations on r and on m, and returns what becomes of r.
func wantDone(t *testing.T, r api.Ring, m *model, what int, l []api.Ref) api.Ring {
	t.Helper()
	before := r
	switch what {
	case 0:
		e := api.Errno(ok)
		if !m.push(l) {
			e = errFull
		}
		wantPush(t, before, l, m.Ring, e)
		r, _ = ring.Push(r, l...)
	case 1:
		x, isOK := m.pop()
		wantPop(t, before, m.Ring, x, isOK)
		r, _, _ = ring.Pop(r)
	case 2:
		x, isOK := m.steal()
		wantSteal(t, before, m.Ring, x, isOK)
		r, _, _ = ring.Steal(r)
	case 3:
		is := m.half()
		wantHalf(t, before, m.Ring, is)
		r, _ = ring.Half(r)
	}
	wantAlike(t, r, *m)
	return r
}

// P11.1 to P11.4: all orders of up to six operations, with small rings of all sizes.
func TestAllOrders(t *testing.T) {
	for most := 1; most < 5; most++ {
		for room := 1; room <= most; room++ {
			r, _ := ring.New(room, most)
			wantOrders(t, r, modelled(r), 6, 1)
			if t.Failed() {
				return
			}
		}
	}
}

// wantOrders does all orders of that many operations; the refs that are pushed are numbered from n on.
func wantOrders(t *testing.T, r api.Ring, m model, many, n int) {
	t.Helper()
	if many == 0 || t.Failed() {
		return
	}
	for what := range 5 {
		is := m
		is.Buf, is.items = slices.Clone(m.Buf), slices.Clone(m.items)
		l := refs(n, n)
		if what == 4 {
			l = refs(n, n+1) // two at once
		}
		q := wantDone(t, r, &is, what%4, l)
		wantOrders(t, q, is, many-1, n+len(l))
	}
}

// P11.1 to P11.4: long rows of operations, drawn, from rings on that are drawn.
func TestDrawn(t *testing.T) {
	d := dice(1)
	done, grown, full := map[int]int{}, 0, 0
	for range 400 {
		r := d.ring([]int{3, 10, 40, 1024}[d.below(4)])
		m := modelled(r)
		wantAlike(t, r, m)
		pushes := 1 + d.below(6) // of so many and four
		for range 150 {
			what := max(0, d.below(pushes+4)-pushes)
			l := d.refs(d.below([]int{2, 4, 20, 300}[d.below(4)]))
			before := r
			r = wantDone(t, r, &m, what, l)
			done[what]++
			if len(r.Buf) > len(before.Buf) {
				grown++
			}
			if what == 0 && len(l) > 0 && r.Many == before.Many {
				full++
			}
		}
		if t.Failed() {
			return
		}
	}
	if done[0] < 9000 || done[1] < 6000 || done[2] < 6000 || done[3] < 6000 || grown < 300 || full < 1000 {
		t.Errorf("%v operations, %d new buffers, %d times full", done, grown, full)
	}
}

// P11.1 to P11.3: rings that are drawn, most of them with something wrong.
func TestAnything(t *testing.T) {
	d := dice(2)
	valid := 0
	for range 20000 {
		r := d.anything()
		room := len(r.Buf)
		is := r.Most >= 1 && r.Most <= maxRing && room >= 1 && room <= r.Most && r.Head >= 0 && r.Head < room && r.Many >= 0 && r.Many <= room
		if !is {
			wantNothing(t, r, false)
			continue
		}
		valid++
		m := modelled(r)
		wantAlike(t, r, m)
		wantDone(t, r, &m, d.below(4), d.refs(d.below(10)))
	}
	if valid < 5000 || valid > 15000 {
		t.Errorf("%d are valid", valid)
	}
}

// P11.4: refs come back in reverse order at the bottom, and in the same order at the top.
func TestOrder(t *testing.T) {
	for _, many := range []int{1, 2, 3, 4, 5, 16, 17, 100, 1023, 1024} {
		for _, room := range []int{1, 2, 3, many} {
			full, _ := ring.New(min(room, many), maxRing)
			full, _ = ring.Push(full, refs(1, many)...)
			r, q := full, full
			for n := range many {
				x, y, isOK := api.Ref{}, api.Ref{}, false
				if r, x, isOK = ring.Pop(r); x != ref(many-n) || !isOK {
					t.Errorf("%d were pushed: popped %v, %v", many, x, isOK)
				}
				if q, y, isOK = ring.Steal(q); y != ref(n+1) || !isOK {
					t.Errorf("%d were pushed: stolen %v, %v", many, y, isOK)
				}
			}
			wantNothing(t, r, true)
			wantNothing(t, q, true)
		}
	}
}

// P11.4: what is done at one end does not count at the other one, up to the last item.
func TestEndsApart(t *testing.T) {
	for pops := range 9 {
		for steals := range 9 - pops {
			full, _ := ring.New(2, 8)
			full, _ = ring.Push(full, refs(1, 8)...)
			a, b := full, full
			for range pops {
				a, _, _ = ring.Pop(a)
			}
			for range steals {
				a, _, _ = ring.Steal(a)
				b, _, _ = ring.Steal(b)
			}
			for range pops {
				b, _, _ = ring.Pop(b)
			}
			wantRing(t, "the other way round", b, a)
			wantItems(t, a, refs(steals+1, 8-pops))
			c, e := ring.Push(a, of(77)...)
			if pops+steals == 0 {
				wantRing(t, "full", c, a)
				continue
			}
			if _, x, isOK := ring.Steal(c); e != ok || !isOK || pops+steals < 8 && x != ref(steals+1) {
				t.Errorf("after %d pops, %d steals and a push: stole %v, %v, error %d", pops, steals, x, isOK, e)
			}
		}
	}
}

// P11.2: refs that are pushed one by one, in parts or all at once come to lie in the same places.
func TestParts(t *testing.T) {
	d := dice(5)
	for range 3000 {
		r := d.ring(60)
		l := d.refs(d.below(r.Most - r.Many + 1))
		is, e := ring.Push(r, l...)
		if e != ok {
			t.Errorf("Push of %d into %s: error %d", len(l), told(r), e)
		}
		cut := d.below(len(l) + 1)
		parts, _ := ring.Push(r, l[:cut]...)
		parts, _ = ring.Push(parts, l[cut:]...)
		wantRing(t, "in parts", parts, is)
		for _, x := range l {
			r, _ = ring.Push(r, x)
		}
		wantRing(t, "one by one", r, is)
	}
}

// mark is a ref that stands where nothing is to be written.
var mark = api.Ref{At: -77, Gen: -78}

// roomy is l with marks behind it in its memory.
func roomy(l []api.Ref) []api.Ref {
	return append(slices.Clone(l), mark, mark, mark, mark)[:len(l)]
}

// scribble writes over all the memory of l.
func scribble(l []api.Ref) {
	l = l[:cap(l)]
	for i := range l {
		l[i] = api.Ref{At: -99}
	}
}

// results are the rings and the lists of refs that the calls make of r and l.
func results(r api.Ring, l []api.Ref) ([]api.Ring, [][]api.Ref) {
	a, _ := ring.Push(r, l...)
	b, _, _ := ring.Pop(r)
	c, _, _ := ring.Steal(r)
	d, half := ring.Half(r)
	return []api.Ring{a, b, c, d}, [][]api.Ref{a.Buf, b.Buf, c.Buf, d.Buf, half, ring.Items(r)}
}

// R4: no call changes what it is given, nor what stands behind it in its memory.
func TestArgumentsKept(t *testing.T) {
	d := dice(6)
	for range 5000 {
		r, l := d.anything(), d.refs(d.below(6))
		buf := slices.Clone(r.Buf)
		r.Buf = roomy(r.Buf)
		wide := roomy(l)
		ring.May(r)
		results(r, wide)
		if whole := r.Buf[:len(buf)+4]; !slices.Equal(whole[:len(buf)], buf) || slices.ContainsFunc(whole[len(buf):], other) {
			t.Fatalf("%v, now %v", buf, whole)
		}
		if whole := wide[:len(l)+4]; !slices.Equal(whole[:len(l)], l) || slices.ContainsFunc(whole[len(l):], other) {
			t.Fatalf("%v, now %v", l, whole)
		}
	}
}

// other reports whether x is no mark.
func other(x api.Ref) bool {
	return x != mark
}

// R3, R4: no result shares memory with an argument or with another result.
func TestMemoryApart(t *testing.T) {
	d := dice(7)
	for range 2000 {
		r, l := d.anything(), d.refs(d.below(6))
		is, lists := results(r, l)
		before := make([][]api.Ref, len(lists))
		for i, x := range lists {
			before[i] = slices.Clone(x)
		}
		buf, given := slices.Clone(r.Buf), slices.Clone(l)
		for i, x := range lists {
			scribble(x)
			if !slices.Equal(r.Buf, buf) || !slices.Equal(l, given) {
				t.Fatalf("%s and %v: changed with the result %d", told(r), l, i)
			}
			for j := i + 1; j < len(lists); j++ {
				if !slices.Equal(lists[j], before[j]) {
					t.Fatalf("of %s and %v: the result %d was changed with the result %d", told(r), l, j, i)
				}
			}
		}
		is, lists = results(r, l)
		scribble(r.Buf)
		scribble(l)
		for i, x := range lists {
			if !slices.Equal(x, before[i]) {
				t.Fatalf("the result %d was changed with what was given", i)
			}
		}
		if len(is) != 4 {
			t.Fatal(is)
		}
	}
	a, _ := ring.New(3, 5)
	b, _ := ring.New(3, 5)
	scribble(a.Buf)
	wantRing(t, "another new ring", b, api.Ring{Buf: of(0, 0, 0), Most: 5})
}

// R4: a ring's own memory may be what is pushed into it.
func TestPushOfItself(t *testing.T) {
	d := dice(8)
	for range 3000 {
		r := d.ring(30)
		from := d.below(len(r.Buf) + 1)
		l := r.Buf[from:min(len(r.Buf), from+r.Most-r.Many)]
		m := modelled(r)
		if !m.push(slices.Clone(l)) {
			t.Fatalf("%v into %s", l, told(r))
		}
		wantPush(t, r, l, m.Ring, ok)
	}
}

// R5: a buffer that is empty and none are the same, as are no refs and an empty list of them.
func TestEmptyLists(t *testing.T) {
	for _, most := range []int{-1, 0, 1, 5, 1024, 1025} {
		for _, buf := range [][]api.Ref{nil, {}, refs(1, 9)[:0]} {
			for _, many := range []int{0, 1} {
				wantNothing(t, api.Ring{Buf: buf, Many: many, Most: most}, false)
			}
			wantPush(t, api.Ring{Buf: buf, Most: most}, []api.Ref{}, api.Ring{Most: most}, errArg)
			wantPush(t, api.Ring{Buf: of(1, 2), Many: 1, Most: 2}, buf, api.Ring{Buf: of(1, 2), Many: 1, Most: 2}, ok)
		}
	}
}

// R3: the same results again, after other calls, and beside them.
func TestAgain(t *testing.T) {
	d := dice(9)
	var all sync.WaitGroup
	for range 300 {
		r, l := d.anything(), d.refs(d.below(9))
		rings, lists := results(r, l)
		for range 3 {
			all.Add(1)
			go func() {
				defer all.Done()
				again, refs := results(r, l)
				if !slices.EqualFunc(again, rings, same) || !slices.EqualFunc(refs, lists, slices.Equal[[]api.Ref]) {
					t.Errorf("%s with %v: other results", told(r), l)
				}
			}()
		}
	}
	all.Wait()
}

// P11.1 to P11.4, R1: whatever the numbers of a ring are, and whatever is done with it.
func FuzzRings(f *testing.F) {
	f.Add(uint64(1), 4, 3, 4, 9, []byte{0, 1, 2, 3, 4, 8, 200})
	f.Add(uint64(2), 1, 0, 0, 1024, []byte{255, 255, 255, 3, 7, 11, 2, 1})
	f.Add(uint64(3), 1024, 1023, 1024, 1024, []byte{0, 4, 2, 4, 1, 4, 3})
	f.Add(uint64(4), 5, -1, 1<<62, 0, []byte{0, 1, 2, 3})
	f.Fuzz(func(t *testing.T, dicing uint64, room, head, many, most int, bytes []byte) {
		d := dice(dicing)
		r := api.Ring{Buf: d.refs(min(max(room, 0), 2000)), Head: head, Many: many, Most: most}
		room = len(r.Buf)
		if most < 1 || most > maxRing || room < 1 || room > most || head < 0 || head >= room || many < 0 || many > room {
			wantNothing(t, r, false)
			r = d.ring(20)
		}
		m := modelled(r)
		for _, b := range bytes[:min(300, len(bytes))] {
			r = wantDone(t, r, &m, int(b%4), d.refs(int(b/4)))
		}
	})
}
