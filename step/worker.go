package step

import (
	"transhumance/api"
	"transhumance/frame"
	"transhumance/pen"
	"transhumance/ring"
)

// noRef is NoRef, the ref of no frame.
var noRef = api.Ref{At: -1}

// worker is the worker that a pick names, in a world whose lists are its own.
type worker struct {
	api.World
	api.Pick
}

// attempt makes a step, and returns the error with which the world stops; OK if it does not stop.
func (k *worker) attempt() (e api.Errno) {
	defer func() {
		caught := recover()
		if caught == nil {
			return
		}
		stop, ok := caught.(api.Errno)
		if !ok {
			panic(caught)
		}
		e = stop
	}()
	k.step()
	return api.OK
}

// step makes a step, or panics with the error with which the world stops.
func (k *worker) step() {
	if k.State != api.WorldRuns || !has(k.Rings, k.Worker) || !has(k.Cur, k.Worker) {
		return
	}
	if k.Cur[k.Worker] == noRef {
		k.look()
		return
	}
	if f, ok := pen.Get(k.Pen, k.Cur[k.Worker]); ok {
		k.execute(f)
	}
}

// look looks for work: first where the worker has its own, then where it may steal.
func (k *worker) look() {
	switch {
	case k.take():
	case k.steal():
		k.Steals++
	default:
		k.Misses++
	}
}

// take takes the bottom of the worker's own ring; false if there is none.
func (k *worker) take() bool {
	rest, r, ok := ring.Pop(k.Rings[k.Worker])
	if ok {
		k.Rings[k.Worker], k.Cur[k.Worker] = rest, r
	}
	return ok
}

// steal takes from the victim's ring what the pick tells; false if there is nothing to take, or no room for it.
func (k *worker) steal() bool {
	if k.Victim == k.Worker || !has(k.Rings, k.Victim) {
		return false
	}
	if k.Half {
		return k.stealHalf()
	}
	return k.stealOne()
}

func (k *worker) stealOne() bool {
	rest, r, ok := ring.Steal(k.Rings[k.Victim])
	if ok {
		k.Rings[k.Victim], k.Cur[k.Worker] = rest, r
	}
	return ok
}

func (k *worker) stealHalf() bool {
	rest, l := ring.Half(k.Rings[k.Victim])
	if len(l) == 0 {
		return false
	}
	mine, e := ring.Push(k.Rings[k.Worker], l[1:]...)
	if e != api.OK {
		return false
	}
	k.Rings[k.Victim], k.Rings[k.Worker], k.Cur[k.Worker] = rest, mine, l[0]
	return true
}

// execute executes an instruction of f, which is the worker's current frame.
func (k *worker) execute(f api.Frame) {
	r := k.Cur[k.Worker]
	f, act := frame.Do(k.Prog, f)
	switch act.Kind {
	case api.ActNone:
		return
	case api.ActWait: // nothing was executed, so that no fuel is asked for
		k.set(r, f)
		k.Cur[k.Worker] = noRef
		return
	}
	if k.Used >= k.Limits.Fuel {
		panic(api.ErrFuel)
	}
	k.Used++
	if act.Kind == api.ActSpawn {
		f.Slots[act.Slot].Kid = k.spawn(r, act)
	}
	k.set(r, f)
	if act.Kind == api.ActEnd {
		k.Cur[k.Worker] = noRef
		k.close(r, f)
	}
}

// spawn makes the child that a frame asks for, whose ref is up, and returns the child's ref, which is in the worker's ring then.
func (k *worker) spawn(up api.Ref, act api.Act) api.Ref {
	child, ok := frame.New(k.Prog, act.Fn, act.Args, act.Seed)
	if !ok {
		panic(api.ErrArg)
	}
	child.Up, child.UpSlot = up, act.Slot
	frames, r, e := pen.Lay(k.Pen, child)
	if e != api.OK {
		panic(e)
	}
	mine, e := ring.Push(k.Rings[k.Worker], r)
	if e != api.OK {
		panic(e)
	}
	k.Pen, k.Rings[k.Worker] = frames, mine
	return r
}

// close closes f, whose ref is r, and then each frame above it of which nothing is under way any more. Each turn drops a frame, so that there is an end of it even if frames are above each other.
func (k *worker) close(r api.Ref, f api.Frame) {
next:
	out, ok := frame.Final(f)
	if !ok {
		return
	}
	k.Pen, _ = pen.Drop(k.Pen, r) // without an error, as f was found by r
	if f.Up == noRef {
		k.State, k.Out = api.WorldEnds, out
		return
	}
	up, ok := pen.Get(k.Pen, f.Up)
	if !ok {
		return
	}
	waited := up.State == api.FrameWaits
	up, _ = frame.Give(up, f.UpSlot, out) // as it was if it has no such slot that waits for an end
	k.set(f.Up, up)
	if waited && up.State == api.FrameReady {
		k.Cur[k.Worker] = f.Up
	}
	if up.State == api.FrameEnds {
		r, f = f.Up, up
		goto next
	}
}

// set lays f where the frame of r is, which there is.
func (k *worker) set(r api.Ref, f api.Frame) {
	k.Pen, _ = pen.Set(k.Pen, r, f)
}
