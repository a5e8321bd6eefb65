package op_test

import (
	"math"
	"strings"
	"testing"
	"transhumance/api"
	"transhumance/op"
)

// span is a field's range.
type span struct{ first, last int }

func (s span) holds(n int) bool {
	return n >= s.first && n <= s.last
}

// row is what the document says of an operation; the numbers stand in it as the document writes them.
type row struct {
	number, fields, pops, pushes int
	ranges                       []span // of the fields, in their order
}

// rows are the operations by their names.
func rows() map[string]row {
	return map[string]row{
		"push":  {0, 2, 0, 1, []span{{0, 250}, {0, 250}}},
		"load":  {1, 1, 0, 1, []span{{0, 15}}},
		"store": {2, 1, 1, 0, []span{{0, 15}}},
		"add":   {3, 0, 2, 1, nil},
		"sub":   {4, 0, 2, 1, nil},
		"mul":   {5, 0, 2, 1, nil},
		"div":   {6, 0, 2, 1, nil},
		"conj":  {7, 0, 1, 1, nil},
		"dup":   {8, 0, 1, 2, nil},
		"drop":  {9, 0, 1, 0, nil},
		"jump":  {10, 1, 0, 0, []span{{0, 199}}},
		"zero":  {11, 1, 1, 0, []span{{0, 199}}},
		"rand":  {12, 0, 0, 1, nil},
		"spawn": {13, 2, 0, 0, []span{{0, 15}, {0, 7}}},
		"join":  {14, 1, 0, 1, []span{{0, 7}}},
		"ret":   {15, 0, 1, 0, nil},
		"trap":  {16, 1, 0, 0, []span{{16, 255}}},
	}
}

// noOps are numbers of no operation; among them are those that become one when they are cut to 8, 16 or 32 bits, or negated.
var noOps = []int{-1, -2, -16, -17, -256, 17, 18, 99, 255, 256, 256 + 5, 1 << 16, 1 << 31, 1 << 32, 1<<32 + 5, -1 << 32, 1 << 62, math.MinInt, math.MinInt + 1, math.MinInt + 5, math.MaxInt - 1, math.MaxInt}

// fieldEdges are numbers about the edges of all fields, and far outside.
var fieldEdges = []int{math.MinInt, math.MinInt + 1, -1 << 32, -256, -251, -250, -16, -1, 0, 1, 6, 7, 8, 9, 14, 15, 16, 17, 127, 128, 198, 199, 200, 201, 249, 250, 251, 252, 254, 255, 256, 257, 1 << 16, 1<<16 + 16, 1 << 32, 1<<32 + 16, 1 << 62, math.MaxInt - 1, math.MaxInt}

func wantName(t *testing.T, n int, is string) {
	t.Helper()
	if got := op.Name(n); got != is {
		t.Errorf("Name of %d: %q, want %q", n, got, is)
	}
}

func wantFind(t *testing.T, name string, is int, ok bool) {
	t.Helper()
	if got, found := op.Find(name); got != is || found != ok {
		t.Errorf("Find of %q: %d, %t, want %d, %t", name, got, found, is, ok)
	}
}

func wantNumbers(t *testing.T, n, fields, pops, pushes int) {
	t.Helper()
	if got := op.Fields(n); got != fields {
		t.Errorf("Fields of %d: %d, want %d", n, got, fields)
	}
	if off, on := op.Stack(n); off != pops || on != pushes {
		t.Errorf("Stack of %d: %d, %d, want %d, %d", n, off, on, pops, pushes)
	}
}

func wantMay(t *testing.T, x api.Instr, is bool) {
	t.Helper()
	if got := op.May(x); got != is {
		t.Errorf("May of %d: %t, want %t", x, got, is)
	}
}

// wantNoOp: what P6.1 and P6.2 say of a number of no operation.
func wantNoOp(t *testing.T, n int) {
	t.Helper()
	wantName(t, n, "")
	wantNumbers(t, n, 0, 0, 0)
	for _, a := range []int{0, 1, 16} {
		wantMay(t, api.Instr{Op: n, A: a}, false)
		wantMay(t, api.Instr{Op: n, B: a}, false)
	}
}

// wantFound: what P6.1 says of a string, be it a name or not.
func wantFound(t *testing.T, rows map[string]row, name string) {
	t.Helper()
	r, ok := rows[name]
	wantFind(t, name, r.number, ok)
}

// byNumber are the rows once more, where they are found by their numbers.
func byNumber() map[int]row {
	m := make(map[int]row)
	for _, r := range rows() {
		m[r.number] = r
	}
	return m
}

// valid is what P6.2 says.
func valid(rows map[int]row, x api.Instr) bool {
	r, ok := rows[x.Op]
	if !ok {
		return false
	}
	for i, n := range []int{x.A, x.B} {
		if i < len(r.ranges) && !r.ranges[i].holds(n) || i >= len(r.ranges) && n != 0 {
			return false
		}
	}
	return true
}

// P6.1
func TestOperations(t *testing.T) {
	all := rows()
	if len(all) != api.Ops || len(byNumber()) != api.Ops {
		t.Fatalf("%d operations, and %d by their numbers", len(all), len(byNumber()))
	}
	for name, r := range all {
		wantName(t, r.number, name)
		wantFind(t, name, r.number, true)
		wantNumbers(t, r.number, r.fields, r.pops, r.pushes)
		if len(r.ranges) != r.fields {
			t.Errorf("%s: %d ranges of %d fields", name, len(r.ranges), r.fields)
		}
	}
}

// P6.1: api's constants are the document's numbers, so that the layers above ask for what they mean.
func TestConstants(t *testing.T) {
	constants := [...]int{api.OpPush, api.OpLoad, api.OpStore, api.OpAdd, api.OpSub, api.OpMul, api.OpDiv, api.OpConj, api.OpDup, api.OpDrop, api.OpJump, api.OpZero, api.OpRand, api.OpSpawn, api.OpJoin, api.OpRet, api.OpTrap}
	for i, name := range strings.Fields("push load store add sub mul div conj dup drop jump zero rand spawn join ret trap") {
		wantFind(t, name, constants[i], true)
		wantName(t, i, name)
	}
}

// P6.1, P6.2: numbers of no operation.
func TestNoOperation(t *testing.T) {
	for _, n := range noOps {
		wantNoOp(t, n)
	}
	for n := range 5000 {
		wantNoOp(t, -1-n)
		wantNoOp(t, api.Ops+n)
	}
}

// P6.1: a name that is changed a little is none, unless it has become another one.
func TestFindNearNames(t *testing.T) {
	all := rows()
	for name := range all {
		for i := range len(name) {
			wantFound(t, all, name[:i])
			wantFound(t, all, name[i+1:])
			wantFound(t, all, name[:i]+name[i+1:])
			for b := range 256 {
				c := string([]byte{byte(b)})
				wantFound(t, all, name[:i]+c+name[i+1:])
				wantFound(t, all, name[:i]+c+name[i:])
				wantFound(t, all, name+c)
			}
		}
		wantFound(t, all, strings.ToUpper(name))
		wantFound(t, all, strings.ToUpper(name[:1])+name[1:])
		for other := range all {
			wantFound(t, all, name+other)
			wantFound(t, all, name+" "+other)
		}
	}
}

// P6.1: all strings of at most three small letters, and of at most two bytes; among them are names of three letters alone.
func TestFindShort(t *testing.T) {
	all := rows()
	for a := range 256 {
		wantFound(t, all, string([]byte{byte(a)}))
		for b := range 256 {
			wantFound(t, all, string([]byte{byte(a), byte(b)}))
		}
	}
	for a := 'a'; a <= 'z'; a++ {
		for b := 'a'; b <= 'z'; b++ {
			for c := 'a'; c <= 'z'; c++ {
				wantFound(t, all, string([]rune{a, b, c}))
			}
		}
	}
}

// P6.1: other strings that are no names.
func TestFindNoName(t *testing.T) {
	for _, s := range []string{"", " ", "\x00", "\n", "Push", "PUSH", "push ", " push", "push\n", "push 1 2", "\x00push", "push\x00", "0", "5", "16", "func", "pop", "nop", "call", "halt", "\xff\xfe", "ｍｕｌ", strings.Repeat("push", 1<<18), strings.Repeat("\x00", 1<<20)} {
		wantFind(t, s, 0, false)
	}
}

// P6.2: all instructions with small numbers.
func TestMay(t *testing.T) {
	all := byNumber()
	for o := -3; o <= api.Ops+3; o++ {
		for a := -3; a <= 260; a++ {
			for b := -3; b <= 260; b++ {
				x := api.Instr{Op: o, A: a, B: b}
				wantMay(t, x, valid(all, x))
			}
		}
	}
}

// P6.2: the edges of all fields, and numbers far outside.
func TestMayFar(t *testing.T) {
	all := byNumber()
	numbers := append([]int(nil), noOps...)
	for n := range api.Ops {
		numbers = append(numbers, n)
	}
	for _, o := range numbers {
		for _, a := range fieldEdges {
			for _, b := range fieldEdges {
				x := api.Instr{Op: o, A: a, B: b}
				wantMay(t, x, valid(all, x))
			}
		}
	}
}

// P6.2: the edges as the document writes them.
func TestMayEdges(t *testing.T) {
	for _, c := range []struct {
		x  api.Instr
		is bool
	}{
		{api.Instr{}, true}, // push 0 0
		{api.Instr{Op: 0, A: 250, B: 250}, true},
		{api.Instr{Op: 0, A: 251}, false},
		{api.Instr{Op: 0, B: 251}, false},
		{api.Instr{Op: 0, A: -1}, false},
		{api.Instr{Op: 0, B: -1}, false},
		{api.Instr{Op: 1, A: 15}, true},
		{api.Instr{Op: 1, A: 16}, false},
		{api.Instr{Op: 1, A: 1, B: 1}, false},
		{api.Instr{Op: 2, A: 15}, true},
		{api.Instr{Op: 2, A: 16}, false},
		{api.Instr{Op: 2, B: -1}, false},
		{api.Instr{Op: 3}, true},
		{api.Instr{Op: 3, A: 1}, false},
		{api.Instr{Op: 3, A: -1}, false},
		{api.Instr{Op: 3, B: 1}, false},
		{api.Instr{Op: 10, A: 199}, true},
		{api.Instr{Op: 10, A: 200}, false},
		{api.Instr{Op: 11, A: 199}, true},
		{api.Instr{Op: 11, A: 200}, false},
		{api.Instr{Op: 13, A: 15, B: 7}, true},
		{api.Instr{Op: 13, A: 16}, false},
		{api.Instr{Op: 13, B: 8}, false},
		{api.Instr{Op: 14, A: 7}, true},
		{api.Instr{Op: 14, A: 8}, false},
		{api.Instr{Op: 14, A: 7, B: 1}, false},
		{api.Instr{Op: 15}, true},
		{api.Instr{Op: 15, A: 1}, false},
		{api.Instr{Op: 16, A: 16}, true},
		{api.Instr{Op: 16, A: 255}, true},
		{api.Instr{Op: 16, A: 15}, false},
		{api.Instr{Op: 16, A: 256}, false},
		{api.Instr{Op: 16}, false},
		{api.Instr{Op: 16, A: 16, B: 1}, false},
		{api.Instr{Op: 17}, false},
		{api.Instr{Op: -1}, false},
	} {
		wantMay(t, c.x, c.is)
	}
}

// P6.3
func TestDifferentNames(t *testing.T) {
	seen := make(map[string]int)
	for n := range api.Ops {
		name := op.Name(n)
		if old, ok := seen[name]; ok || name == "" {
			t.Errorf("operations %d and %d: %q", old, n, name)
		}
		seen[name] = n
		wantFind(t, name, n, true)
	}
}

// R3: what was asked before, or refused before, does not count.
func TestNothingKept(t *testing.T) {
	for name, r := range rows() {
		for _, n := range noOps {
			wantNoOp(t, n)
			wantFind(t, name+"s", 0, false)
			wantName(t, r.number, name)
			wantFind(t, name, r.number, true)
			wantNumbers(t, r.number, r.fields, r.pops, r.pushes)
		}
	}
}

// P6.1, P6.2
func FuzzOperations(f *testing.F) {
	for name, r := range rows() {
		f.Add(name, r.number, 16, 0)
		f.Add(name+" ", -1-r.number, 7, 7)
		f.Add(name[1:], 17+r.number, 250, 250)
	}
	all, numbers := rows(), byNumber()
	f.Fuzz(func(t *testing.T, name string, o, a, b int) {
		wantFound(t, all, name)
		wantFound(t, all, op.Name(o))
		r := numbers[o]
		wantNumbers(t, o, r.fields, r.pops, r.pushes)
		for _, x := range []api.Instr{{Op: o, A: a, B: b}, {Op: o, A: int(byte(a)), B: int(byte(b))}, {Op: o, A: int(byte(a))}, {Op: o}} {
			wantMay(t, x, valid(numbers, x))
		}
	})
}
