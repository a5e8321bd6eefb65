package step_test

import (
	"fmt"
	"math"
	"reflect"
	"slices"
	"strings"
	"testing"
	"transhumance/api"
	"transhumance/code"
	"transhumance/frame"
	"transhumance/pen"
	"transhumance/ring"
	"transhumance/step"
	"transhumance/world"
)

// The errors, states and limits by the numbers that the document gives them.
const (
	ok        = 0
	errArg    = 1
	errFuel   = 100
	errFull   = 110
	errFrames = 120
	runs      = 0 // of a world
	over      = 1
	stops     = 2
	ready     = 0 // of a frame
	waits     = 1
	ends      = 2
	empty     = 0 // of a slot
	busy      = 1
	done      = 2
	maxFrames = 1024
	lastGen   = 1<<32 - 1
)

// noRef is the ref of no frame.
var noRef = api.Ref{At: -1}

// far are numbers beyond all limits; among them are those that come to lie within them when they are cut to 8, 16 or 32 bits, or negated.
var far = []int{-1, -2, -3, -64, -256, -1 << 32, 256, 257, 1 << 16, 1<<16 + 1, 1 << 32, 1<<32 + 1, 1<<32 + 2, -1<<32 + 1, 1 << 62, math.MinInt, math.MinInt + 1, math.MaxInt - 1, math.MaxInt}

// parsed is the program with these lines, which stand one behind the other.
func parsed(t *testing.T, lines string) api.Prog {
	t.Helper()
	p, at, e := code.Parse(strings.ReplaceAll(lines, "; ", "\n") + "\n")
	if e != api.OK {
		t.Fatalf("line %d of %q: error %d", at, lines, e)
	}
	return p
}

// begun is a world in which that program, which need not be safe, is about to begin.
func begun(t *testing.T, lines string, workers int, l api.Limits) api.World {
	t.Helper()
	p := parsed(t, lines)
	w, e := world.New(parsed(t, "func 0 0 0; trap 50"), nil, 7, workers, l)
	f, found := frame.New(p, 0, nil, 7)
	if e != api.OK || !found {
		t.Fatalf("%q with %d workers, %v: %v, error %d", lines, workers, l, found, e)
	}
	w.Prog, w.Pen.Cells[0].Frame = p, f
	return w
}

// common are limits that differ from each other.
var common = api.Limits{Fuel: 50, Frames: 9, Ring: 4}

// told is all of w; empty lists and none are told alike.
func told(w api.World) string {
	return fmt.Sprintf("%+v", w)
}

// short is so much of a text as can be read.
func short(s string) string {
	return s[:min(len(s), 1500)]
}

// copied is v in other memory, with a mark behind each of its lists.
func copied(v reflect.Value) reflect.Value {
	c := reflect.New(v.Type()).Elem()
	c.Set(v)
	switch v.Kind() {
	case reflect.Struct:
		for i := range v.NumField() {
			c.Field(i).Set(copied(v.Field(i)))
		}
	case reflect.Slice:
		many := v.Len()
		l := reflect.MakeSlice(v.Type(), many+1, many+2)
		for i := range many {
			l.Index(i).Set(copied(v.Index(i)))
		}
		d := dice(77)
		d.fill(l.Index(many))
		c.Set(l.Slice(0, many))
	}
	return c
}

// roomy is x in other memory, with marks behind all its lists.
func roomy[T any](x T) T {
	return copied(reflect.ValueOf(x)).Interface().(T)
}

// wantDo: what becomes of w. It returns that.
func wantDo(t *testing.T, w api.World, p api.Pick, is api.World) api.World {
	t.Helper()
	got := step.Do(w, p)
	if !world.Same(got, is) {
		t.Errorf("%+v in %s:\n%s, want\n%s", p, short(told(w)), short(told(got)), short(told(is)))
	}
	wantMiss(t, w, got)
	return got
}

// wantMiss: P14.4.
func wantMiss(t *testing.T, w, got api.World) {
	t.Helper()
	if got.Misses != w.Misses {
		w.Misses++
		if !world.Same(w, got) {
			t.Errorf("%s: a miss made %s of it", short(told(w)), short(told(got)))
		}
	}
}

// wantChange: what becomes of w is w but for that change.
func wantChange(t *testing.T, w api.World, p api.Pick, change func(is *api.World)) api.World {
	t.Helper()
	is := roomy(w)
	change(&is)
	return wantDo(t, w, p, is)
}

// wantKept: nothing becomes of w.
func wantKept(t *testing.T, w api.World, p api.Pick) {
	t.Helper()
	wantDo(t, w, p, w)
}

// wantMissed: the worker finds no work.
func wantMissed(t *testing.T, w api.World, p api.Pick) {
	t.Helper()
	wantChange(t, w, p, func(is *api.World) { is.Misses++ })
}

// wantStop: the world stops with that error.
func wantStop(t *testing.T, w api.World, p api.Pick, e api.Errno) {
	t.Helper()
	is := wantChange(t, w, p, func(is *api.World) { is.State, is.Err = stops, e })
	for at := range is.Rings {
		wantKept(t, is, api.Pick{Worker: at, Victim: at + 1})
	}
}

// refs are refs with these places, and with generations that differ.
func refs(places ...int) []api.Ref {
	var l []api.Ref
	for _, at := range places {
		l = append(l, api.Ref{At: at, Gen: 100 + at})
	}
	return l
}

// holds is a valid ring with these items, which has room for one more and begins in the midst of its buffer.
func holds(places ...int) api.Ring {
	items := refs(places...)
	half := len(items) / 2
	buf := slices.Concat(items[half:], refs(-9), items[:half])
	return api.Ring{Buf: buf, Head: (len(items) - half + 1) % len(buf), Many: len(items), Most: 9}
}

// idle is a world of workers with these rings, of which none has a current frame.
func idle(rings ...api.Ring) api.World {
	w := api.World{Rings: rings, Limits: common, Used: 3, Steals: 5, Misses: 7, Root: refs(1)[0]}
	for range rings {
		w.Cur = append(w.Cur, noRef)
	}
	return w
}

// notValid are rings that are not valid, most of them with something in their buffer.
func notValid() []api.Ring {
	return []api.Ring{
		{}, {Buf: refs(1), Many: 1}, {Buf: refs(1), Many: 1, Most: 1025}, {Buf: refs(1, 2), Many: 2, Most: 1}, {Buf: refs(1), Many: 2, Most: 9}, {Buf: refs(1), Many: -1, Most: 9},
		{Buf: refs(1), Head: 1, Many: 1, Most: 9}, {Buf: refs(1), Head: -1, Many: 1, Most: 9}, {Many: 1, Most: 1}, {Buf: refs(1), Many: math.MaxInt, Most: math.MaxInt}, {Buf: refs(1), Many: 1, Most: math.MinInt},
	}
}

// picks are all steps of that worker with these victims.
func picks(worker int, victims ...int) []api.Pick {
	var l []api.Pick
	for _, victim := range victims {
		l = append(l, api.Pick{Worker: worker, Victim: victim}, api.Pick{Worker: worker, Victim: victim, Half: true})
	}
	return l
}

// wantGo: the first worker goes on.
func wantGo(t *testing.T, w api.World) {
	t.Helper()
	if got := step.Do(w, api.Pick{}); got.Used != w.Used+1 || got.State != runs || world.Same(got, w) {
		t.Errorf("%s: %s", short(told(w)), short(told(got)))
	}
}

// P14.1 to P14.3: a frame that two workers have: the one behind finds it as the other left it, or not at all.
func TestShared(t *testing.T) {
	w := begun(t, "func 0 0 0; push 1 2; ret", 2, common)
	w.Cur[1] = w.Root
	w = step.Do(step.Do(w, api.Pick{}), api.Pick{Worker: 1})
	if w.State != over || w.Used != 2 || w.Cur[0] != (api.Ref{}) || w.Cur[1] != noRef {
		t.Errorf("%s", told(w))
	}
	w.State = runs
	wantKept(t, w, api.Pick{})
	wantMissed(t, w, api.Pick{Worker: 1})
	if _, found := pen.Get(w.Pen, w.Cur[0]); found {
		t.Errorf("%s", told(w))
	}
}

// P14.1 to P14.4: a whole run, step by step.
func TestWritten(t *testing.T) {
	w := begun(t, "func 0 0 2; spawn 1 0; spawn 2 1; join 0; join 1; sub; ret; func 0 0 0; push 5 0; ret; func 0 0 0; push 3 0; ret", 2, common)
	a, b := api.Ref{At: 1}, api.Ref{At: 2}
	for n, c := range []struct {
		pick          api.Pick
		cur           [2]api.Ref
		items         string
		used          int
		steals, fails int
	}{
		{api.Pick{Worker: 1}, [2]api.Ref{{}, noRef}, "[] []", 0, 0, 1},
		{api.Pick{}, [2]api.Ref{{}, noRef}, "[{1 0}] []", 1, 0, 1},
		{api.Pick{}, [2]api.Ref{{}, noRef}, "[{1 0} {2 0}] []", 2, 0, 1},
		{api.Pick{Worker: 1, Victim: 1}, [2]api.Ref{{}, noRef}, "[{1 0} {2 0}] []", 2, 0, 2},
		{api.Pick{Worker: 1, Half: true}, [2]api.Ref{{}, a}, "[{2 0}] []", 2, 1, 2},
		{api.Pick{Worker: 1}, [2]api.Ref{{}, a}, "[{2 0}] []", 3, 1, 2},
		{api.Pick{}, [2]api.Ref{noRef, a}, "[{2 0}] []", 3, 1, 2}, // it waits for the slot 0
		{api.Pick{Victim: 1}, [2]api.Ref{b, a}, "[] []", 3, 1, 2}, // its own ring comes first
		{api.Pick{}, [2]api.Ref{b, a}, "[] []", 4, 1, 2},
		{api.Pick{}, [2]api.Ref{noRef, a}, "[] []", 5, 1, 2},                          // it waits for another slot
		{api.Pick{Victim: 1}, [2]api.Ref{noRef, a}, "[] []", 5, 1, 3},                 // a frame that is executed is not stolen
		{api.Pick{Worker: 1}, [2]api.Ref{noRef, {}}, "[] []", 6, 1, 3},                // the second worker goes on with the first task
		{api.Pick{Worker: 1}, [2]api.Ref{noRef, {}}, "[] []", 7, 1, 3},                // join 0
		{api.Pick{Worker: 1}, [2]api.Ref{noRef, {}}, "[] []", 8, 1, 3},                // join 1
		{api.Pick{Worker: 1}, [2]api.Ref{noRef, {}}, "[] []", 9, 1, 3},                // sub
		{api.Pick{Worker: 1}, [2]api.Ref{noRef, noRef}, "[] []", 10, 1, 3},            // ret
		{api.Pick{Worker: 0, Victim: 1}, [2]api.Ref{noRef, noRef}, "[] []", 10, 1, 3}, // it is over
	} {
		w = wantDo(t, w, c.pick, stepped(w, c.pick))
		items := fmt.Sprint(ring.Items(w.Rings[0]), " ", ring.Items(w.Rings[1]))
		if [2]api.Ref(w.Cur) != c.cur || items != c.items || w.Used != c.used || w.Steals != c.steals || w.Misses != c.fails {
			t.Errorf("step %d: %v, %s, %d used, %d steals, %d misses", n, w.Cur, items, w.Used, w.Steals, w.Misses)
		}
	}
	if w.State != over || w.Out != (api.Out{V: api.Value{Re: 2}}) || len(pen.Refs(w.Pen)) != 0 {
		t.Errorf("%s", told(w))
	}
}
