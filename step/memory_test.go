package step_test

import (
	"fmt"
	"math"
	"reflect"
	"slices"
	"sync"
	"testing"
	"transhumance/api"
	"transhumance/step"
	"transhumance/world"
)

// R1: worlds with very long lists, and numbers far outside.
func TestLong(t *testing.T) {
	w := begun(t, "func 0 0 1; spawn 0 0; push 1 2; ret", 2, common)
	w.Limits.Fuel, w.Used = math.MaxInt, math.MaxInt-1
	w.Rings = append(w.Rings, make([]api.Ring, 1<<17)...)
	w.Cur = append(w.Cur, make([]api.Ref, 1<<18)...)
	wantDo(t, w, api.Pick{}, stepped(w, api.Pick{}))
	w.Cur[1<<17] = noRef
	for _, half := range []bool{false, true} {
		wantMissed(t, w, api.Pick{Worker: 1 << 17, Victim: 1<<17 + 1, Half: half})
		wantKept(t, w, api.Pick{Worker: 1 << 18, Half: half})
	}
	w = begun(t, "func 0 0 1; push 1 2; ret", 2, common)
	w.Pen.Cells = append(w.Pen.Cells, make([]api.Cell, 1<<16)...)
	wantKept(t, w, api.Pick{})
	w = begun(t, "func 0 0 1; spawn 0 0; push 1 2; ret", 2, common)
	w.Prog = append(w.Prog, make(api.Prog, 1<<16)...)
	wantStop(t, w, api.Pick{}, errArg)
	w = begun(t, "func 0 0 1; spawn 0 0; push 1 2; ret", 2, common)
	f := &w.Pen.Cells[0].Frame
	f.Stack, f.Locals, f.Slots = make([]api.Value, 1<<16), make([]api.Value, 1<<16), append(f.Slots, make([]api.Slot, 1<<16)...)
	wantDo(t, w, api.Pick{}, stepped(w, api.Pick{}))
}

// R5: empty lists and none are the same.
func TestEmptyLists(t *testing.T) {
	none := begun(t, "func 0 0 0; push 1 2; ret", 2, common)
	empty := roomy(none)
	empty.Pen.Free, empty.Pen.Cells[0].Frame.Stack, empty.Pen.Cells[0].Frame.Slots, empty.Pen.Cells[0].Frame.Locals = []int{}, []api.Value{}, []api.Slot{}, []api.Value{}
	for range 3 {
		a, b := step.Do(none, api.Pick{}), step.Do(empty, api.Pick{})
		if !world.Same(a, b) {
			t.Errorf("%s and %s", told(a), told(b))
		}
		none, empty = a, b
	}
	wantKept(t, api.World{Rings: []api.Ring{}, Cur: []api.Ref{}, Prog: api.Prog{}}, api.Pick{})
}

// beyond tells v with all that is behind its lists.
func beyond(v reflect.Value) string {
	switch v.Kind() {
	case reflect.Struct:
		s := ""
		for i := range v.NumField() {
			s += beyond(v.Field(i)) + " "
		}
		return s
	case reflect.Slice:
		s := ""
		for i := range v.Len() {
			s += beyond(v.Index(i))
		}
		return fmt.Sprint("[", s, v.Slice(0, v.Cap()), "]")
	}
	return fmt.Sprint(v)
}

// span is the memory of a list, with what is behind it.
type span struct {
	from, to uintptr
	name     string
}

// spans are those of all lists in v.
func spans(v reflect.Value, name string) []span {
	var l []span
	switch v.Kind() {
	case reflect.Struct:
		for i := range v.NumField() {
			l = append(l, spans(v.Field(i), name+"."+v.Type().Field(i).Name)...)
		}
	case reflect.Slice:
		if v.Cap() > 0 {
			l = append(l, span{v.Pointer(), v.Pointer() + uintptr(v.Cap())*v.Type().Elem().Size(), name})
		}
		for i := range v.Len() {
			l = append(l, spans(v.Index(i), fmt.Sprint(name, i))...)
		}
	}
	return l
}

// wantApart: no two lists in these worlds share memory.
func wantApart(t *testing.T, worlds ...api.World) {
	t.Helper()
	var l []span
	for i, w := range worlds {
		l = append(l, spans(reflect.ValueOf(w), fmt.Sprint("world ", i))...)
	}
	slices.SortFunc(l, func(a, b span) int { return int(a.from) - int(b.from) })
	for i := 1; i < len(l); i++ {
		if l[i-1].to > l[i].from {
			t.Errorf("%s shares memory with %s", l[i-1].name, l[i].name)
		}
	}
}

// R4: no step changes what it is given, nor what stands behind it in its memory; what it makes shares no memory with it, nor with what it makes again.
func TestMemoryApart(t *testing.T) {
	d := dice(6)
	made := map[int]int{}
	for range 400 {
		w := roomy(d.thicket())
		for range 6 {
			p := d.pick(len(w.Rings))
			is := beyond(reflect.ValueOf(w))
			next, again := step.Do(w, p), step.Do(w, p)
			wantApart(t, w, next, again)
			if now := beyond(reflect.ValueOf(w)); now != is {
				t.Fatalf("%s, now %s", is, now)
			}
			made[kind(w, next)]++
			w = roomy(next)
		}
		if t.Failed() {
			return
		}
	}
	for k := range 6 {
		if made[k] < 4 {
			t.Errorf("of the kind %d are %d", k, made[k])
		}
	}
}

// R4: the lists of what becomes of a world are apart, even if its own are not.
func TestListsApart(t *testing.T) {
	w := begun(t, "func 0 4 4; spawn 1 0; push 1 2; ret; func 0 0 0; push 1 2; ret", 3, common)
	w.Prog[1].Code = w.Prog[0].Code[1:]
	l := []api.Ref{{}, noRef, noRef, {At: 5}}
	w.Cur = l
	w.Rings[0].Buf, w.Rings[1].Buf, w.Rings[2].Buf = l[:1], l, l[1:]
	w.Rings[1].Many = 4
	f := w.Pen.Cells[0].Frame
	f.Stack, f.Locals = f.Locals[:2], f.Locals[1:]
	w.Pen.Cells = []api.Cell{{Used: true, Frame: f}, {Used: true, Frame: f}}
	is := beyond(reflect.ValueOf(w))
	for _, p := range slices.Concat(picks(0, 1, 2), picks(1, 0), picks(2, 0, 1), picks(9, 9)) {
		wantApart(t, wantDo(t, w, p, stepped(w, p)))
	}
	if now := beyond(reflect.ValueOf(w)); now != is {
		t.Errorf("%s, now %s", is, now)
	}
}

// R3: the same again, after other steps, and beside them.
func TestAgain(t *testing.T) {
	d := dice(7)
	var all sync.WaitGroup
	for range 500 {
		w := d.thicket()
		p := d.pick(len(w.Rings))
		is := told(step.Do(w, p))
		for range 3 {
			all.Add(1)
			go func() {
				defer all.Done()
				if now := told(step.Do(w, p)); now != is {
					t.Errorf("%s, now %s", is, now)
				}
			}()
		}
	}
	all.Wait()
}
