package ring

import (
	"transhumance/api"
)

// bottom is the end of a valid ring at which refs are pushed and popped; the ring's memory is its own.
type bottom struct {
	api.Ring
}

// push pushes refs, for which the ring may grow enough.
func (b *bottom) push(l ...api.Ref) {
	for _, x := range l {
		if b.Many == len(b.Buf) {
			b.grow()
		}
		b.Buf[place(b.Ring, b.Many)] = x
		b.Many++
	}
}

// grow lays the items into a greater buffer, which begins with the top.
func (b *bottom) grow() {
	wide := make([]api.Ref, min(2*len(b.Buf), b.Most))
	copy(wide, Items(b.Ring))
	b.Buf, b.Head = wide, 0
}

// pop takes the last item, of a ring that has some.
func (b *bottom) pop() api.Ref {
	b.Many--
	return b.Buf[place(b.Ring, b.Many)]
}

// top is the end of a valid ring at which refs are stolen.
type top struct {
	api.Ring
}

// steal takes the first item, of a ring that has some.
func (t *top) steal() api.Ref {
	x := t.Buf[t.Head]
	t.Head = place(t.Ring, 1)
	t.Many--
	return x
}
