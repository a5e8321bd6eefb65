package step_test

import (
	"transhumance/api"
	"transhumance/frame"
	"transhumance/pen"
	"transhumance/ring"
)

// stepped is what the chapter's words make of w. It changes the lists of a copy; of the layers below only what asks and what executes is called.
func stepped(w api.World, p api.Pick) api.World {
	is := roomy(w)
	if w.State != runs || p.Worker < 0 || p.Worker >= len(w.Rings) || p.Worker >= len(w.Cur) {
		return is
	}
	m := model{World: &is, me: p.Worker}
	if is.Cur[m.me] == noRef {
		m.look(p)
		return is
	}
	c := m.cell(is.Cur[m.me])
	if c == nil {
		return is
	}
	if e := m.execute(c); e != ok {
		is = roomy(w)
		is.State, is.Err = stops, e
	}
	return is
}

// model is a world in which the worker me makes a step.
type model struct {
	*api.World
	me int
}

// cell is the cell of r in the pen, if that is valid.
func (m *model) cell(r api.Ref) *api.Cell {
	if pen.May(m.Pen) {
		for at := range m.Pen.Cells {
			if c := &m.Pen.Cells[at]; at == r.At && c.Gen == r.Gen && c.Used {
				return c
			}
		}
	}
	return nil
}

// items are the refs of the ring with that index; none if there is no such ring, or it is not valid.
func (m *model) items(at int) []api.Ref {
	if at < 0 || at >= len(m.Rings) || !ring.May(m.Rings[at]) {
		return nil
	}
	var l []api.Ref
	r := m.Rings[at]
	for n := range r.Many {
		l = append(l, r.Buf[(r.Head+n)%len(r.Buf)])
	}
	return l
}

// drop takes that many refs from the top of a ring.
func (m *model) drop(at, many int) {
	r := &m.Rings[at]
	r.Head = (r.Head + many) % len(r.Buf)
	r.Many -= many
}

// push puts refs at the bottom of the worker's ring; the error if it does not take them.
func (m *model) push(l []api.Ref) api.Errno {
	r := &m.Rings[m.me]
	if !ring.May(*r) {
		return errArg
	}
	if r.Many+len(l) > r.Most {
		return errFull
	}
	for _, x := range l {
		items := m.items(m.me)
		if len(items) == len(r.Buf) {
			r.Head, r.Buf = 0, append(items, make([]api.Ref, min(len(items), r.Most-len(items)))...)
		}
		r.Buf[(r.Head+r.Many)%len(r.Buf)] = x
		r.Many++
	}
	return ok
}

// look is P14.1.
func (m *model) look(p api.Pick) {
	own, others := m.items(m.me), m.items(p.Victim)
	if p.Victim == m.me {
		others = nil
	}
	many := 1
	if p.Half {
		many = (len(others) + 1) / 2
	}
	switch {
	case len(own) > 0:
		m.Cur[m.me] = own[len(own)-1]
		m.Rings[m.me].Many--
	case len(others) == 0 || p.Half && m.push(others[1:many]) != ok:
		m.Misses++
	default:
		m.Cur[m.me] = others[0]
		m.drop(p.Victim, many)
		m.Steals++
	}
}

// execute is P14.2.
func (m *model) execute(c *api.Cell) api.Errno {
	me := m.Cur[m.me]
	f, act := frame.Do(m.Prog, c.Frame)
	c.Frame = f
	if act.Kind == api.ActNone {
		return ok
	}
	if act.Kind == api.ActWait {
		m.Cur[m.me] = noRef
		return ok
	}
	if m.Limits.Fuel <= m.Used {
		return errFuel
	}
	m.Used++
	if act.Kind == api.ActSpawn {
		return m.spawn(me, act)
	}
	if act.Kind == api.ActEnd {
		m.Cur[m.me] = noRef
		m.close(me)
	}
	return ok
}

func (m *model) spawn(me api.Ref, act api.Act) api.Errno {
	child, is := frame.New(m.Prog, act.Fn, act.Args, act.Seed)
	if !is {
		return errArg
	}
	child.Up, child.UpSlot = me, act.Slot
	at := len(m.Pen.Cells)
	if many := len(m.Pen.Free); many > 0 {
		at = m.Pen.Free[many-1]
		m.Pen.Free = m.Pen.Free[:many-1]
	} else if at == m.Pen.Most {
		return errFrames
	} else {
		m.Pen.Cells = append(m.Pen.Cells, api.Cell{})
	}
	c := &m.Pen.Cells[at]
	c.Used, c.Frame = true, child
	r := api.Ref{At: at, Gen: c.Gen}
	m.cell(me).Frame.Slots[act.Slot].Kid = r
	return m.push([]api.Ref{r})
}

// close is P14.3, with a call for each frame that is closed.
func (m *model) close(r api.Ref) {
	c := m.cell(r)
	f := c.Frame
	out, is := frame.Final(f)
	if !is {
		return
	}
	*c = api.Cell{Gen: (c.Gen + 1) % (lastGen + 1)}
	m.Pen.Free = append(m.Pen.Free, r.At)
	if f.Up == noRef {
		m.State, m.Out = over, out
		return
	}
	if c = m.cell(f.Up); c == nil {
		return
	}
	up := &c.Frame
	if f.UpSlot >= 0 && f.UpSlot < len(up.Slots) && up.Slots[f.UpSlot].State == busy {
		up.Slots[f.UpSlot] = api.Slot{State: done, Kid: noRef, Out: out}
		if up.State == waits && up.Wait == f.UpSlot {
			up.State, up.Wait = ready, 0
			m.Cur[m.me] = f.Up
		}
	}
	if up.State == ends {
		m.close(f.Up)
	}
}
