package ring_test

import (
	"fmt"
	"math"
	"slices"
	"testing"
	"transhumance/api"
	"transhumance/ring"
)

// The errors and the greatest ring by the numbers that the document gives them.
const (
	ok      = 0
	errArg  = 1
	errFull = 110
	maxRing = 1024
)

// far are numbers beyond all limits; among them are those that come to lie within them when they are cut to 8, 16 or 32 bits, or negated.
var far = []int{-1, -2, -3, -1024, 1025, 1026, 2048, 1 << 16, 1<<16 + 1, 1<<31 - 1, 1 << 31, 1 << 32, 1<<32 + 1, -1<<32 + 1, 1 << 62, math.MinInt, math.MinInt + 1, math.MaxInt - 1, math.MaxInt}

// ref is one of many refs that differ.
func ref(n int) api.Ref {
	return api.Ref{At: n, Gen: 1000 - n}
}

// refs are those of the numbers from a to b.
func refs(a, b int) []api.Ref {
	var l []api.Ref
	for n := a; n <= b; n++ {
		l = append(l, ref(n))
	}
	return l
}

// of is a buffer of the refs with these numbers; 0 is the ref of which both numbers are 0.
func of(numbers ...int) []api.Ref {
	l := make([]api.Ref, len(numbers))
	for i, n := range numbers {
		if n != 0 {
			l[i] = ref(n)
		}
	}
	return l
}

// told is r, or so much of it as can be read, for an error's text.
func told(r api.Ring) string {
	return fmt.Sprintf("{Buf %d %v Head %d Many %d Most %d}", len(r.Buf), r.Buf[:min(20, len(r.Buf))], r.Head, r.Many, r.Most)
}

// same reports whether a and b are equal in all fields; an empty buffer and none are the same (R5).
func same(a, b api.Ring) bool {
	return slices.Equal(a.Buf, b.Buf) && a.Head == b.Head && a.Many == b.Many && a.Most == b.Most
}

func wantRing(t *testing.T, what string, r, is api.Ring) {
	t.Helper()
	if !same(r, is) {
		t.Errorf("%s: %s, want %s", what, told(r), told(is))
	}
}

func wantPush(t *testing.T, r api.Ring, l []api.Ref, is api.Ring, isError api.Errno) {
	t.Helper()
	what := fmt.Sprintf("Push of %d %v into %s", len(l), l[:min(20, len(l))], told(r))
	q, e := ring.Push(r, l...)
	wantRing(t, what, q, is)
	if e != isError {
		t.Errorf("%s: error %d, want %d", what, e, isError)
	}
}

func wantPop(t *testing.T, r, is api.Ring, x api.Ref, isOK bool) {
	t.Helper()
	wantTaken(t, "Pop of "+told(r), ring.Pop, r, is, x, isOK)
}

func wantSteal(t *testing.T, r, is api.Ring, x api.Ref, isOK bool) {
	t.Helper()
	wantTaken(t, "Steal of "+told(r), ring.Steal, r, is, x, isOK)
}

func wantTaken(t *testing.T, what string, take func(api.Ring) (api.Ring, api.Ref, bool), r, is api.Ring, x api.Ref, isOK bool) {
	t.Helper()
	q, y, got := take(r)
	wantRing(t, what, q, is)
	if y != x || got != isOK {
		t.Errorf("%s: %v, %v, want %v, %v", what, y, got, x, isOK)
	}
}

func wantHalf(t *testing.T, r, is api.Ring, l []api.Ref) {
	t.Helper()
	q, m := ring.Half(r)
	wantRing(t, "Half of "+told(r), q, is)
	if !slices.Equal(m, l) {
		t.Errorf("Half of %s: %v, want %v", told(r), m, l)
	}
}

func wantItems(t *testing.T, r api.Ring, l []api.Ref) {
	t.Helper()
	if m := ring.Items(r); !slices.Equal(m, l) {
		t.Errorf("Items of %s: %v, want %v", told(r), m, l)
	}
}

// wantNothing: r, which is valid or not, has no items and stays as it is, but that something may be pushed into it if it is valid.
func wantNothing(t *testing.T, r api.Ring, valid bool) {
	t.Helper()
	if ring.May(r) != valid {
		t.Errorf("May of %s: want %v", told(r), valid)
	}
	wantItems(t, r, nil)
	wantPop(t, r, r, api.Ref{}, false)
	wantSteal(t, r, r, api.Ref{}, false)
	wantHalf(t, r, r, nil)
	if valid {
		wantPush(t, r, nil, r, ok)
		return
	}
	for _, many := range []int{0, 1, 2, 5, 1025} {
		wantPush(t, r, refs(1, many), r, errArg)
	}
}

func wantNew(t *testing.T, room, most int, isOK bool) {
	t.Helper()
	what := fmt.Sprintf("New(%d, %d)", room, most)
	r, got := ring.New(room, most)
	if got != isOK {
		t.Errorf("%s: %v", what, got)
	}
	if !isOK {
		wantRing(t, what, r, api.Ring{})
		return
	}
	wantRing(t, what, r, api.Ring{Buf: make([]api.Ref, room), Most: most})
	wantNothing(t, r, true)
}

// P11.1: all rings up to some size, and those about the greatest one.
func TestNew(t *testing.T) {
	for most := 1; most < 40; most++ {
		for room := 1; room < 45; room++ {
			wantNew(t, room, most, room <= most)
		}
	}
	for _, most := range []int{127, 128, 255, 256, 257, 512, 1000, 1023, 1024} {
		for _, room := range []int{1, 2, 3, 127, 128, 255, 256, 257, 511, 512, 513, 999, 1000, 1001, 1022, 1023, 1024, 1025, most - 1, most, most + 1} {
			wantNew(t, room, most, room <= most)
		}
	}
}

// P11.1: numbers of which there is no ring.
func TestNewRefuses(t *testing.T) {
	none := append([]int{0}, far...)
	for _, n := range none {
		for _, good := range []int{1, 2, 5, 16, 512, 1023, 1024} {
			wantNew(t, n, good, false)
			wantNew(t, good, n, false)
		}
		for _, m := range none {
			wantNew(t, n, m, false)
		}
	}
}

// P11.1: which rings are valid, for all small numbers and for far ones, wherever they stand.
func TestMay(t *testing.T) {
	small := []int{-2, -1, 0, 1, 2, 3, 4, 5, 6}
	for room := range 6 {
		for _, head := range append(small, far...) {
			for _, many := range append(small, far...) {
				for _, most := range append(small, far...) {
					r := api.Ring{Buf: refs(1, room), Head: head, Many: many, Most: most}
					headIs, manyIs := slices.Contains(small[2:2+room], head), slices.Contains(small[2:3+room], many)
					mostIs := slices.Contains(small[2+room:], most) && most != 0
					if is := room > 0 && headIs && manyIs && mostIs; ring.May(r) != is {
						t.Errorf("May of %s: want %v", told(r), is)
					}
				}
			}
		}
	}
}

// P11.1: the edges of each of the conditions, one by one, of small rings and of the greatest ones.
func TestMayEdges(t *testing.T) {
	for _, c := range []struct {
		room, head, many, most int
		is                     bool
	}{
		{1, 0, 0, 1, true}, {1, 0, 1, 1, true}, {1, 0, 1, 1024, true}, {1024, 1023, 1024, 1024, true}, {1024, 0, 0, 1024, true}, {1023, 1022, 1023, 1024, true}, {1023, 1022, 1023, 1023, true},
		{0, 0, 0, 0, false}, {0, 0, 0, 1, false}, {0, 0, 0, 1024, false}, {1, 0, 0, 0, false}, {1, 0, 0, -1, false},
		{2, 0, 0, 1, false}, {1024, 0, 0, 1023, false}, {1024, 0, 0, 1, false}, {3, 2, 3, 2, false},
		{1, 0, 0, 1025, false}, {1024, 0, 0, 1025, false}, {1025, 0, 0, 1025, false}, {1025, 0, 0, 1024, false}, {1025, 1024, 1025, 2000, false},
		{1, 1, 0, 1, false}, {1, -1, 0, 1, false}, {1024, 1024, 0, 1024, false}, {1024, -1, 5, 1024, false}, {7, 7, 3, 9, false}, {7, 6, 3, 9, true},
		{1, 0, 2, 1, false}, {1, 0, 2, 2, false}, {1, 0, -1, 1, false}, {1024, 0, 1025, 1024, false}, {7, 3, 8, 9, false}, {7, 3, 7, 9, true},
	} {
		r := api.Ring{Buf: refs(1, c.room), Head: c.head, Many: c.many, Most: c.most}
		if ring.May(r) != c.is {
			t.Errorf("May of %s: want %v", told(r), c.is)
		}
		if !c.is {
			wantNothing(t, r, false)
		}
	}
}

// P11.1: any refs may be in a ring: nothing is known of them here.
func TestAnyRefs(t *testing.T) {
	odd := []api.Ref{{}, {At: -1}, {At: -1, Gen: -1}, {At: math.MinInt, Gen: math.MaxInt}, {At: 1 << 32, Gen: 1 << 32}, {At: 5}, {At: 5}}
	r := api.Ring{Buf: odd, Head: 3, Many: 7, Most: 7}
	if !ring.May(r) {
		t.Errorf("%s is valid", told(r))
	}
	wantItems(t, r, slices.Concat(odd[3:], odd[:3]))
	wantPop(t, r, api.Ring{Buf: odd, Head: 3, Many: 6, Most: 7}, odd[2], true)
	wantSteal(t, r, api.Ring{Buf: odd, Head: 4, Many: 6, Most: 7}, odd[3], true)
	q, _ := ring.New(7, 7)
	wantPush(t, q, odd, api.Ring{Buf: odd, Many: 7, Most: 7}, ok)
}

// P11.2: written-out pushes: where the refs come to lie, and when there is a new buffer.
func TestPush(t *testing.T) {
	for _, c := range []struct {
		r  api.Ring
		l  []api.Ref
		is api.Ring
	}{
		{api.Ring{Buf: of(0, 0, 0), Most: 5}, of(1), api.Ring{Buf: of(1, 0, 0), Many: 1, Most: 5}},
		{api.Ring{Buf: of(0, 0, 0), Most: 5}, of(1, 2, 3), api.Ring{Buf: of(1, 2, 3), Many: 3, Most: 5}}, // full, but nothing more is to be pushed
		{api.Ring{Buf: of(0, 0), Most: 5}, of(1, 2, 3), api.Ring{Buf: of(1, 2, 3, 0), Many: 3, Most: 5}},
		{api.Ring{Buf: of(0, 0), Most: 5}, of(1, 2, 3, 4), api.Ring{Buf: of(1, 2, 3, 4), Many: 4, Most: 5}},
		{api.Ring{Buf: of(0, 0), Most: 5}, of(1, 2, 3, 4, 5), api.Ring{Buf: of(1, 2, 3, 4, 5), Many: 5, Most: 5}}, // twice, the second time by one ref
		{api.Ring{Buf: of(7, 8, 9), Head: 1, Many: 1, Most: 3}, of(1), api.Ring{Buf: of(7, 8, 1), Head: 1, Many: 2, Most: 3}},
		{api.Ring{Buf: of(7, 8, 9), Head: 1, Many: 1, Most: 3}, of(1, 2), api.Ring{Buf: of(2, 8, 1), Head: 1, Many: 3, Most: 3}}, // round
		{api.Ring{Buf: of(7, 8, 9), Head: 2, Many: 2, Most: 9}, of(1), api.Ring{Buf: of(7, 1, 9), Head: 2, Many: 3, Most: 9}},
		{api.Ring{Buf: of(7, 8, 9), Head: 2, Many: 2, Most: 9}, of(1, 2), api.Ring{Buf: of(9, 7, 1, 2, 0, 0), Many: 4, Most: 9}},
		{api.Ring{Buf: of(7, 8, 9), Head: 2, Many: 3, Most: 4}, of(1), api.Ring{Buf: of(9, 7, 8, 1), Many: 4, Most: 4}},
		{api.Ring{Buf: of(7, 8, 9), Head: 2, Many: 0, Most: 9}, of(1), api.Ring{Buf: of(7, 8, 1), Head: 2, Many: 1, Most: 9}},                   // what was there before stays
		{api.Ring{Buf: of(7, 8, 9), Head: 2, Many: 0, Most: 9}, of(1, 2, 3, 4), api.Ring{Buf: of(1, 2, 3, 4, 0, 0), Many: 4, Most: 9}},          // until there is a new buffer
		{api.Ring{Buf: of(5), Many: 0, Most: 9}, of(1, 2, 3, 4, 6), api.Ring{Buf: of(1, 2, 3, 4, 6, 0, 0, 0), Many: 5, Most: 9}},                // 1, 2, 4, 8
		{api.Ring{Buf: of(5), Many: 1, Most: 2}, of(1), api.Ring{Buf: of(5, 1), Many: 2, Most: 2}},                                              // exactly twice as many
		{api.Ring{Buf: of(7, 8, 9), Head: 1, Many: 3, Most: 6}, of(0, 0), api.Ring{Buf: of(8, 9, 7, 0, 0, 0), Many: 5, Most: 6}},                // refs like those of an empty place
		{api.Ring{Buf: of(7, 8, 9), Head: 1, Many: 3, Most: 7}, of(1, 2, 3, 4), api.Ring{Buf: of(8, 9, 7, 1, 2, 3, 4), Many: 7, Most: 7}},       // 3, 6, 7
		{api.Ring{Buf: of(7, 8, 9), Head: 1, Many: 2, Most: 1024}, of(1, 1, 1), api.Ring{Buf: of(8, 9, 1, 1, 1, 0), Many: 5, Most: 1024}},       // the same ref again
		{api.Ring{Buf: of(7, 8, 9, 6), Head: 3, Many: 4, Most: 5}, of(1), api.Ring{Buf: of(6, 7, 8, 9, 1), Many: 5, Most: 5}},                   // a buffer that is greater by one
		{api.Ring{Buf: of(7, 8, 9, 6), Head: 3, Many: 4, Most: 8}, of(1, 2, 3, 4), api.Ring{Buf: of(6, 7, 8, 9, 1, 2, 3, 4), Many: 8, Most: 8}}, // up to Most
	} {
		wantPush(t, c.r, c.l, c.is, ok)
	}
}

// P11.2: no refs: even a ring that is full stays as it is.
func TestPushNone(t *testing.T) {
	for room := 1; room < 6; room++ {
		for head := range room {
			for many := range room + 1 {
				for most := room; most < 12; most++ {
					r := api.Ring{Buf: refs(1, room), Head: head, Many: many, Most: most}
					wantPush(t, r, nil, r, ok)
					wantPush(t, r, []api.Ref{}, r, ok)
				}
			}
		}
	}
}

// P11.2: the sizes of the buffers, of rings that are filled ref by ref.
func TestGrowth(t *testing.T) {
	for _, c := range []struct {
		most  int
		rooms []int
	}{
		{1, []int{1}}, {2, []int{1, 2}}, {3, []int{1, 2, 3}}, {5, []int{1, 2, 4, 5}}, {5, []int{2, 4, 5}}, {5, []int{3, 5}}, {8, []int{2, 4, 8}}, {9, []int{4, 8, 9}}, {9, []int{5, 9}}, {7, []int{7}},
		{1024, []int{1, 2, 4, 8, 16, 32, 64, 128, 256, 512, 1024}}, {1024, []int{3, 6, 12, 24, 48, 96, 192, 384, 768, 1024}}, {1024, []int{1023, 1024}}, {1024, []int{512, 1024}}, {1024, []int{511, 1022, 1024}}, {1024, []int{1024}},
		{1023, []int{1, 2, 4, 8, 16, 32, 64, 128, 256, 512, 1023}}, {1000, []int{300, 600, 1000}}, {513, []int{512, 513}},
	} {
		for turn := range 2 { // also from another place than index 0 on
			r, _ := ring.New(c.rooms[0], c.most)
			r.Head = turn * (c.rooms[0] - 1)
			var seen []int
			for n := 1; n <= c.most; n++ {
				q, e := ring.Push(r, ref(n))
				if e != ok || q.Many != n || q.Most != c.most || (len(q.Buf) != len(r.Buf)) != (r.Many == len(r.Buf)) {
					t.Fatalf("Push into %s: %s, error %d", told(r), told(q), e)
				}
				if r = q; !slices.Contains(seen, len(r.Buf)) {
					seen = append(seen, len(r.Buf))
				}
			}
			wantItems(t, r, refs(1, c.most))
			if !slices.Equal(seen, c.rooms) {
				t.Errorf("up to %d: buffers of %v refs, want %v", c.most, seen, c.rooms)
			}
			wantPush(t, r, refs(1, 1), r, errFull)
		}
	}
}

// P11.2: there may be Most items, and not one more; a ring into which not all refs go takes none of them.
func TestPushFull(t *testing.T) {
	for most := 1; most < 9; most++ {
		for room := 1; room <= most; room++ {
			for head := range room {
				for many := range room + 1 {
					r := api.Ring{Buf: refs(101, 100+room), Head: head, Many: many, Most: most}
					items := ring.Items(r)
					for more := range 2*most + 3 {
						l := refs(1, more)
						if many+more > most {
							wantPush(t, r, l, r, errFull)
							continue
						}
						q, e := ring.Push(r, l...)
						if e != ok || !slices.Equal(ring.Items(q), slices.Concat(items, l)) {
							t.Errorf("Push of %v into %s: %s, error %d", l, told(r), told(q), e)
						}
					}
				}
			}
		}
	}
	full := api.Ring{Buf: refs(1, 1024), Head: 5, Many: 1024, Most: 1024}
	nearly := api.Ring{Buf: refs(1, 1024), Head: 5, Many: 1023, Most: 1024}
	for _, more := range []int{1, 2, 256, 1024, 1025, 1 << 16, 1 << 20} {
		wantPush(t, full, refs(1, more), full, errFull)
		wantPush(t, nearly, refs(0, more), nearly, errFull)
	}
	wantPush(t, nearly, of(77), api.Ring{Buf: slices.Concat(refs(1, 4), of(77), refs(6, 1024)), Head: 5, Many: 1024, Most: 1024}, ok)
}

// P11.2: that a ring is not valid is told ahead of how many refs there are.
func TestPushErrorsInOrder(t *testing.T) {
	for _, r := range []api.Ring{{}, {Most: 1}, {Most: -1}, {Buf: refs(1, 2), Many: 2, Most: 1}, {Buf: refs(1, 1), Head: 1, Many: 1, Most: 1}, {Buf: refs(1, 1), Many: 2, Most: 1}, {Buf: refs(1, 1), Many: math.MaxInt, Most: 1}} {
		for _, many := range []int{0, 1, 2, 1025} {
			wantPush(t, r, refs(1, many), r, errArg)
		}
	}
}

// P11.3: written-out ends.
func TestEnds(t *testing.T) {
	r := api.Ring{Buf: of(5, 6, 7, 8), Head: 2, Many: 3, Most: 9} // 7, 8, 5
	wantItems(t, r, of(7, 8, 5))
	wantPop(t, r, api.Ring{Buf: of(5, 6, 7, 8), Head: 2, Many: 2, Most: 9}, ref(5), true)
	wantSteal(t, r, api.Ring{Buf: of(5, 6, 7, 8), Head: 3, Many: 2, Most: 9}, ref(7), true)
	wantHalf(t, r, api.Ring{Buf: of(5, 6, 7, 8), Head: 0, Many: 1, Most: 9}, of(7, 8))
	r.Head = 3 // 8, 5, 6
	wantPop(t, r, api.Ring{Buf: of(5, 6, 7, 8), Head: 3, Many: 2, Most: 9}, ref(6), true)
	wantSteal(t, r, api.Ring{Buf: of(5, 6, 7, 8), Head: 0, Many: 2, Most: 9}, ref(8), true)
	wantHalf(t, r, api.Ring{Buf: of(5, 6, 7, 8), Head: 1, Many: 1, Most: 9}, of(8, 5))
	r.Many = 1 // 8
	wantPop(t, r, api.Ring{Buf: of(5, 6, 7, 8), Head: 3, Many: 0, Most: 9}, ref(8), true)
	wantSteal(t, r, api.Ring{Buf: of(5, 6, 7, 8), Head: 0, Many: 0, Most: 9}, ref(8), true)
	wantHalf(t, r, api.Ring{Buf: of(5, 6, 7, 8), Head: 0, Many: 0, Most: 9}, of(8))
	r.Many = 4 // 8, 5, 6, 7
	wantPop(t, r, api.Ring{Buf: of(5, 6, 7, 8), Head: 3, Many: 3, Most: 9}, ref(7), true)
	wantSteal(t, r, api.Ring{Buf: of(5, 6, 7, 8), Head: 0, Many: 3, Most: 9}, ref(8), true)
	wantHalf(t, r, api.Ring{Buf: of(5, 6, 7, 8), Head: 1, Many: 2, Most: 9}, of(8, 5))
	r.Many = 0
	wantNothing(t, r, true)
	one := api.Ring{Buf: of(5), Many: 1, Most: 1}
	wantPop(t, one, api.Ring{Buf: of(5), Most: 1}, ref(5), true)
	wantSteal(t, one, api.Ring{Buf: of(5), Most: 1}, ref(5), true)
	wantHalf(t, one, api.Ring{Buf: of(5), Most: 1}, of(5))
}

// P11.1, P11.3: all heads and numbers of items of rings up to some size, and of some of the greatest ones.
func TestAllPlaces(t *testing.T) {
	for _, room := range []int{1, 2, 3, 4, 5, 6, 7, 8, 9, 16, 17} {
		for head := range room {
			for many := range room + 1 {
				wantPlaces(t, room, head, many, room+many%3)
			}
		}
	}
	for _, room := range []int{512, 1000, 1023, 1024} {
		for _, head := range []int{0, 1, 255, 256, 511, room / 2, room - 2, room - 1} {
			for _, many := range []int{0, 1, 2, 3, 255, 256, 257, 511, 512, room - 1, room} {
				wantPlaces(t, room, head, many, maxRing)
			}
		}
	}
}

// wantPlaces: the items of this ring, and what is taken at its ends.
func wantPlaces(t *testing.T, room, head, many, most int) {
	t.Helper()
	r := api.Ring{Buf: refs(1, room), Head: head, Many: many, Most: most}
	if many == 0 {
		wantNothing(t, r, true)
		return
	}
	twice := slices.Concat(r.Buf, r.Buf)
	items := twice[head : head+many]
	wantItems(t, r, items)
	after := func(steals int) api.Ring {
		return api.Ring{Buf: r.Buf, Head: twice[head+steals].At - 1, Many: many - steals, Most: most}
	}
	wantPop(t, r, api.Ring{Buf: r.Buf, Head: head, Many: many - 1, Most: most}, items[many-1], true)
	wantSteal(t, r, after(1), items[0], true)
	half := (many + 1) / 2
	wantHalf(t, r, after(half), items[:half])
}

// P11.3: how many are half of the items.
func TestHalfOf(t *testing.T) {
	for many, half := range []int{0, 1, 1, 2, 2, 3, 3, 4, 4, 5, 5} {
		r, _ := ring.New(3, 20)
		r, _ = ring.Push(r, refs(1, many)...)
		q, l := ring.Half(r)
		if !slices.Equal(l, refs(1, half)) || !slices.Equal(ring.Items(q), refs(half+1, many)) {
			t.Errorf("half of %d: %v of %s", many, l, told(q))
		}
	}
	r, _ := ring.New(1, maxRing)
	r, _ = ring.Push(r, refs(1, maxRing)...)
	for _, half := range []int{512, 256, 128, 64, 32, 16, 8, 4, 2, 1, 1, 0} {
		items, l := ring.Items(r), []api.Ref(nil)
		if r, l = ring.Half(r); !slices.Equal(l, items[:half]) {
			t.Errorf("half of %d: %d", len(items), len(l))
		}
	}
}

// P11.3: Half is as many steals.
func TestHalfIsSteals(t *testing.T) {
	d := dice(4)
	for range 3000 {
		r, is := d.ring(40), []api.Ref(nil)
		q := r
		for range (r.Many + 1) / 2 {
			var x api.Ref
			q, x, _ = ring.Steal(q)
			is = append(is, x)
		}
		wantHalf(t, r, q, is)
	}
}

// P11.1 to P11.3, R1, R6: a ring of which any number is wrong has no items, and is returned as it is.
func TestNotValid(t *testing.T) {
	for _, room := range []int{0, 1, 2, 5, 1023, 1024, 1025, 1 << 16} {
		buf := refs(1, room)
		most := min(max(room, 1), maxRing)
		for _, n := range append([]int{max(room, 1)}, far...) {
			if n >= 0 && n < room {
				continue
			}
			wantNothing(t, api.Ring{Buf: buf, Head: n, Most: most}, false)
			wantNothing(t, api.Ring{Buf: buf, Head: n, Many: 1, Most: most}, false)
			if n != room {
				wantNothing(t, api.Ring{Buf: buf, Many: n, Most: most}, false)
			}
			if n < 1 || n > maxRing {
				wantNothing(t, api.Ring{Buf: buf, Many: 1, Most: n}, false)
			}
			wantNothing(t, api.Ring{Buf: buf, Head: n, Many: n, Most: n}, false)
			for _, m := range far[len(far)-3:] {
				wantNothing(t, api.Ring{Buf: buf, Head: n, Many: m, Most: most}, false)
				wantNothing(t, api.Ring{Buf: buf, Head: m, Many: n, Most: m}, false)
			}
		}
	}
}
