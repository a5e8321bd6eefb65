package seq_test

import (
	"fmt"
	"math"
	"slices"
	"strings"
	"sync"
	"testing"
	"transhumance/api"
	"transhumance/code"
	"transhumance/seed"
	"transhumance/seq"
)

// The errors and the greatest fuel by the numbers that the document gives them.
const (
	errArg  = 1
	errFuel = 100
	maxFuel = 100000
)

// verdict is what Eval returns.
type verdict struct {
	out  api.Out
	many int
	e    api.Errno
}

var (
	refused = verdict{e: errArg}
	spent   = verdict{e: errFuel}
)

// noFuels are numbers that are no fuel; among them are those that become one when they are cut to 8, 16 or 32 bits, or negated.
var noFuels = []int{0, -1, -2, -9, -1000, -100000, 100001, 100002, 1 << 17, 1<<31 - 1, 1 << 32, 1<<32 + 9, -1<<32 + 9, 1 << 62, math.MinInt, math.MinInt + 1, math.MinInt + 9, math.MaxInt}

// ended is the verdict on a program that ends with a value.
func ended(re, im, many int) verdict {
	return verdict{out: api.Out{V: api.Value{Re: re, Im: im}}, many: many}
}

// trapped is the verdict on a program that ends with a trap.
func trapped(trap, many int) verdict {
	return verdict{out: api.Out{Trap: trap}, many: many}
}

// parsed is the program with these lines, which stand one behind the other.
func parsed(t *testing.T, lines string) api.Prog {
	t.Helper()
	p, at, e := code.Parse(strings.ReplaceAll(lines, "; ", "\n") + "\n")
	if e != api.OK {
		t.Fatalf("line %d of %q: error %d", at, lines, e)
	}
	return p
}

// told is p, or so much of it as can be read, for an error's text.
func told(p api.Prog) string {
	s := strings.ReplaceAll(strings.TrimSpace(code.Text(p)), "\n", "; ")
	return fmt.Sprintf("%d functions %.900s", len(p), s)
}

// values are that many values that differ.
func values(many int) []api.Value {
	l := make([]api.Value, many)
	for i := range l {
		l[i] = api.Value{Re: i % 251, Im: 250 - i%250}
	}
	return l
}

func evaluated(p api.Prog, args []api.Value, s, fuel int) verdict {
	out, many, e := seq.Eval(p, args, s, fuel)
	return verdict{out, many, e}
}

func wantEval(t *testing.T, p api.Prog, args []api.Value, s, fuel int, is verdict) {
	t.Helper()
	if v := evaluated(p, args, s, fuel); v != is {
		t.Errorf("Eval of %s with %v, the seed %d and the fuel %d: %v, want %v", told(p), args[:min(20, len(args))], s, fuel, v, is)
	}
}

// wantEnds: p ends as is tells with as much fuel or more, runs out of less, and is refused with a number that is no fuel.
func wantEnds(t *testing.T, p api.Prog, args []api.Value, s int, is verdict) {
	t.Helper()
	if is.many < 1 || is.many > maxFuel {
		t.Fatalf("%s ends with %d instructions?", told(p), is.many)
	}
	for _, fuel := range []int{is.many, is.many + 1, is.many + 2, 2 * is.many, 99999, maxFuel} {
		if fuel >= is.many && fuel <= maxFuel {
			wantEval(t, p, args, s, fuel, is)
		}
	}
	for _, fuel := range []int{is.many - 1, is.many - 2, is.many / 2, 2, 1} {
		if fuel < is.many && fuel > 0 {
			wantEval(t, p, args, s, fuel, spent)
		}
	}
	for _, fuel := range noFuels {
		wantEval(t, p, args, s, fuel, refused)
	}
}

// P10.1: programs without children.
func TestAlone(t *testing.T) {
	for _, c := range []struct {
		is    verdict
		args  []api.Value
		lines string
	}{
		{ended(1, 2, 2), nil, "func 0 0 0; push 1 2; ret"},
		{ended(250, 250, 2), nil, "func 0 0 0; push 250 250; ret"},
		{ended(0, 0, 2), nil, "func 0 0 0; push 0 0; ret"},
		{ended(5, 6, 3), nil, "func 0 0 0; push 1 1; push 5 6; ret"}, // the top value
		{trapped(16, 1), nil, "func 0 0 0; trap 16"},
		{trapped(255, 3), nil, "func 0 0 0; push 1 2; push 3 4; trap 255"},
		{trapped(1, 3), nil, "func 0 0 0; push 1 2; push 0 0; div; ret"},
		{ended(0, 0, 4), nil, "func 0 0 0; push 0 0; push 1 2; div; ret"},
		{trapped(2, 1), nil, "func 0 0 1; join 0; ret"},
		{ended(0, 0, 2), nil, "func 0 1 0; load 0; ret"},
		{ended(3, 4, 2), []api.Value{{Re: 3, Im: 4}}, "func 1 1 0; load 0; ret"},
		{ended(249, 1, 4), []api.Value{{Re: 3}, {Re: 5, Im: 250}}, "func 2 2 0; load 0; load 1; sub; ret"},
		{ended(250, 7, 3), []api.Value{{Re: 250, Im: 244}}, "func 1 2 0; load 0; conj; ret"},
		{ended(15, 235, 2), values(16), "func 16 16 0; load 15; ret"},
		{ended(9, 0, 4), []api.Value{{}}, "func 1 1 0; load 0; zero 4; push 8 0; ret; push 9 0; ret"},
		{ended(8, 0, 4), []api.Value{{Im: 1}}, "func 1 1 0; load 0; zero 4; push 8 0; ret; push 9 0; ret"},
		{ended(0, 0, 6), []api.Value{{Re: 2}}, "func 1 1 0; jump 3; load 0; ret; push 0 0; store 0; jump 1"},
		{ended(1, 1, 2), nil, "func 0 0 0; push 1 1; ret; add; jump 2"}, // what is not reached may be anything
	} {
		for _, s := range []int{0, 1, 1 << 31, 1<<32 - 1} {
			wantEnds(t, parsed(t, c.lines), c.args, s, c.is)
		}
	}
}

// P10.1: a child runs to its end at once, and its end is laid into its slot; its instructions are counted.
func TestChildren(t *testing.T) {
	for _, c := range []struct {
		is    verdict
		lines string
	}{
		{ended(7, 8, 5), "func 0 0 1; spawn 1 0; join 0; ret; func 0 0 0; push 7 8; ret"},
		{ended(1, 1, 5), "func 0 0 1; spawn 1 0; push 1 1; ret; func 0 0 0; push 7 8; ret"}, // nobody joins it
		{ended(249, 1, 9), "func 0 0 8; push 3 0; push 5 250; spawn 1 7; join 7; ret; func 2 2 0; load 0; load 1; sub; ret"},
		{ended(2, 0, 8), "func 0 0 2; spawn 1 0; spawn 2 1; join 1; ret; func 0 0 0; push 1 0; ret; func 0 0 0; push 2 0; ret"},
		{ended(1, 0, 8), "func 0 0 2; spawn 1 0; spawn 2 1; join 0; ret; func 0 0 0; push 1 0; ret; func 0 0 0; push 2 0; ret"},
		{ended(250, 0, 10), "func 0 0 2; spawn 1 1; spawn 2 0; join 1; join 0; sub; ret; func 0 0 0; push 1 0; ret; func 0 0 0; push 2 0; ret"},
		{ended(9, 9, 10), "func 0 0 1; spawn 1 0; join 0; drop; spawn 2 0; join 0; ret; func 0 0 0; push 7 7; ret; func 0 0 0; push 9 9; ret"}, // the slot is empty again
		{ended(6, 0, 10), "func 0 0 1; spawn 1 0; join 0; ret; func 0 0 1; spawn 2 0; push 4 0; join 0; add; ret; func 0 0 0; push 2 0; ret"},
		{ended(4, 0, 7), "func 0 0 1; push 4 0; push 5 0; spawn 1 0; ret; func 1 1 0; load 0; jump 2; ret"},
		{trapped(2, 4), "func 0 0 1; spawn 1 0; spawn 1 0; trap 50; func 0 0 0; push 1 0; ret"},                         // a slot that is done is not empty
		{trapped(2, 5), "func 0 0 1; spawn 1 0; join 0; join 0; trap 50; func 0 0 0; push 1 0; ret"},                    // joined twice
		{trapped(2, 4), "func 0 0 2; spawn 1 0; join 1; trap 50; func 0 0 0; push 1 0; ret"},                            // another slot
		{trapped(1, 6), "func 0 0 1; spawn 1 0; push 0 0; push 0 0; div; ret; func 0 0 0; push 1 0; ret"},               // after what the child did
		{trapped(1, 5), "func 0 0 1; spawn 1 0; join 0; trap 50; func 0 0 0; push 1 0; push 0 0; div; ret"},             // in the child
		{trapped(60, 3), "func 0 0 1; spawn 1 0; join 0; trap 50; func 0 0 0; trap 60"},                                 // joined
		{trapped(60, 5), "func 0 0 1; spawn 1 0; join 0; ret; func 0 0 1; spawn 2 0; join 0; ret; func 0 0 0; trap 60"}, // from task to task
	} {
		for _, s := range []int{0, 5, 1<<32 - 1} {
			wantEnds(t, parsed(t, c.lines), nil, s, c.is)
		}
	}
}

// P10.1: the traps of children that nobody joined, the smallest slot's first, and only if the task has none of its own.
func TestTrapsLeft(t *testing.T) {
	kids := "; func 0 0 0; trap 40; func 0 0 0; trap 41; func 0 0 0; push 7 7; ret; func 0 0 1; spawn 1 0; push 8 8; ret"
	for _, c := range []struct {
		is    verdict
		lines string
	}{
		{trapped(40, 4), "func 0 0 1; spawn 1 0; push 1 1; ret"},
		{trapped(40, 4), "func 0 0 8; spawn 1 7; push 1 1; ret"},
		{trapped(41, 6), "func 0 0 2; spawn 1 1; spawn 2 0; push 1 1; ret"},
		{trapped(40, 6), "func 0 0 2; spawn 1 0; spawn 2 1; push 1 1; ret"},
		{trapped(41, 7), "func 0 0 3; spawn 3 0; spawn 2 2; push 1 1; ret"},
		{trapped(42, 5), "func 0 0 2; spawn 1 1; spawn 2 0; trap 42"}, // its own trap
		{trapped(1, 7), "func 0 0 2; spawn 1 1; spawn 2 0; push 1 1; push 0 0; div; ret"},
		{trapped(40, 5), "func 0 0 2; spawn 1 1; spawn 2 0; join 1; ret"}, // that of a child that it joined is its own
		{trapped(2, 3), "func 0 0 2; spawn 1 0; spawn 2 0; trap 99"},
		{trapped(40, 6), "func 0 0 1; spawn 4 0; join 0; ret"},
		{trapped(40, 7), "func 0 0 1; spawn 4 0; push 1 1; ret"},
		{ended(1, 1, 5), "func 0 0 1; spawn 3 0; push 1 1; ret"},
		{trapped(40, 10), "func 0 0 3; spawn 3 0; spawn 1 1; push 1 1; spawn 3 2; ret"},
	} {
		wantEnds(t, parsed(t, c.lines+kids), nil, 3, c.is)
	}
}

// P10.1: a task's arguments are the values on top of its parent's stack, the topmost one last, for all numbers of arguments.
func TestArguments(t *testing.T) {
	for arity := range 17 {
		for local := range arity {
			f := api.Func{Arity: arity, Locals: arity, Slots: 1}
			g := api.Func{Arity: arity, Locals: 16, Code: []api.Instr{{Op: 1, A: local}, {Op: 15}}}
			for _, v := range values(arity) {
				f.Code = append(f.Code, api.Instr{Op: 0, A: v.Re, B: v.Im})
			}
			f.Code = append(f.Code, api.Instr{Op: 13, A: 1}, api.Instr{Op: 14}, api.Instr{Op: 15})
			v := values(arity)[local]
			args := slices.Repeat([]api.Value{{Re: 99}}, arity)
			wantEnds(t, api.Prog{f, g}, args, 8, ended(v.Re, v.Im, arity+5))
			wantEnds(t, api.Prog{g}, values(arity), 8, ended(v.Re, v.Im, 2))
		}
	}
}

// P10.1: the seed of a child is made of its parent's seed and of how many children that one spawned before.
func TestSeeds(t *testing.T) {
	draws := parsed(t, "func 0 0 0; rand; drop; rand; drop; rand; ret")
	kids := parsed(t, "func 0 0 2; rand; drop; spawn 1 0; spawn 1 1; join 0; drop; spawn 1 0; join 0; ret; func 0 0 0; rand; ret")
	deep := parsed(t, "func 0 0 1; spawn 2 0; join 0; spawn 1 0; join 0; ret; func 0 0 2; spawn 2 1; spawn 2 0; join 0; ret; func 0 0 0; rand; rand; ret")
	for _, s := range []int{0, 1, 2, 7, 1 << 16, 1 << 31, 1<<32 - 2, 1<<32 - 1} {
		v := seed.Draw(s, 2)
		wantEnds(t, draws, nil, s, ended(v.Re, v.Im, 6))
		v = seed.Draw(seed.Child(s, 2), 0)
		wantEnds(t, kids, nil, s, ended(v.Re, v.Im, 15))
		v = seed.Draw(seed.Child(seed.Child(s, 1), 1), 1)
		wantEnds(t, deep, nil, s, ended(v.Re, v.Im, 18))
	}
	if a, b := evaluated(kids, nil, 1, 100), evaluated(kids, nil, 2, 100); a == b {
		t.Errorf("the seeds 1 and 2 both lead to %v", a)
	}
}

// exactly is a program that ends with the value 1 after that many instructions, which are those of a tree of tasks.
func exactly(many int) api.Prog {
	pad, one, ret := []api.Instr{{Op: 12}, {Op: 9}}, api.Instr{Op: 0, A: 1}, api.Instr{Op: 15}
	var p api.Prog
	for many > 100 { // two children
		var l []api.Instr
		if many%2 == 1 {
			l = append(l, api.Instr{Op: 10, A: 1})
		}
		l = append(l, api.Instr{Op: 13, A: len(p) + 1}, api.Instr{Op: 13, A: len(p) + 1, B: 1}, one, ret)
		p = append(p, api.Func{Slots: 2, Code: l})
		many = (many - len(l)) / 2
	}
	l := slices.Repeat(pad, (many-2)/2)
	if many%2 == 1 {
		l = append(l, api.Instr{Op: 10, A: len(l) + 1})
	}
	return append(p, api.Func{Code: append(l, one, ret)})
}

// P10.1: the edges of the fuel, for small and great numbers of instructions.
func TestFuel(t *testing.T) {
	for many := 2; many < 400; many++ {
		wantEnds(t, exactly(many), nil, 4, ended(1, 0, many))
	}
	for _, many := range []int{1000, 4096, 9999, 32767, 32768, 50000, 65535, 65536, 65537, 99998, 99999, 100000} {
		wantEnds(t, exactly(many), nil, 4, ended(1, 0, many))
	}
	for _, many := range []int{100001, 100002, 131072, 200000, 1 << 20} {
		for _, fuel := range []int{1, 2, 3, 1000, 99999, maxFuel} {
			wantEval(t, exactly(many), nil, 4, fuel, spent)
		}
		for _, fuel := range append([]int{many, many + 1}, noFuels...) {
			wantEval(t, exactly(many), nil, 4, fuel, refused)
		}
	}
}

// P10.1: programs without an end run out of any fuel, wherever they are without one.
func TestEndless(t *testing.T) {
	for _, lines := range []string{
		"func 0 0 0; jump 0",
		"func 0 0 0; push 0 0; zero 0; trap 50",
		"func 0 0 1; spawn 0 0; trap 50", // as deep as there is fuel
		"func 0 0 1; jump 1; spawn 0 0; join 0; ret",
		"func 0 0 2; spawn 0 1; spawn 0 0; trap 50",
		"func 0 0 1; spawn 1 0; trap 50; func 0 0 0; jump 0", // its parent does not come to its trap
		"func 0 0 1; spawn 1 0; join 0; ret; func 0 0 0; push 1 0; drop; jump 0",
		"func 0 0 1; spawn 1 0; trap 50; func 0 0 1; spawn 2 0; trap 51; func 0 0 0; jump 1; jump 0",
		"func 0 0 1; spawn 1 0; join 0; ret; func 0 0 1; spawn 0 0; trap 50",     // in turns
		"func 0 0 1; spawn 1 0; join 0; drop; jump 0; func 0 0 0; push 1 0; ret", // always new children
	} {
		p := parsed(t, lines)
		for fuel := 1; fuel < 50; fuel++ {
			wantEval(t, p, nil, 6, fuel, spent)
		}
		for _, fuel := range []int{1000, 65536, 99999, maxFuel} {
			wantEval(t, p, nil, 6, fuel, spent)
		}
		for _, fuel := range []int{0, 100001} {
			wantEval(t, p, nil, 6, fuel, refused)
		}
	}
	fork := parsed(t, "func 0 0 1; spawn 1 0; trap 50; func 0 0 0; jump 1; trap 60")
	wantEnds(t, fork, nil, 6, trapped(50, 4)) // the same with an end
}

// P10.1: thousands of tasks of which each waits for the next one, up to a value or to a trap.
func TestDeep(t *testing.T) {
	p := parsed(t, "func 2 2 1; load 1; zero 8; load 0; load 1; push 1 0; sub; spawn 0 0; jump 15; load 0; zero 19; load 0; push 1 0; sub; push 250 0; spawn 0 0; join 0; push 0 1; add; ret; push 0 0; ret")
	q := slices.Clone(p)
	q[0].Code = slices.Concat(p[0].Code[:19], []api.Instr{{Op: 0}, {Op: 16, A: 77}})
	for _, c := range [][2]int{{0, 0}, {0, 1}, {0, 250}, {1, 0}, {1, 1}, {5, 100}, {32, 250}, {33, 40}} {
		args := []api.Value{{Re: c[0]}, {Re: c[1]}}
		levels := c[0]*251 + c[1]
		wantEnds(t, p, args, 2, ended(0, levels%251, 12*levels+c[0]+6))
		wantEnds(t, q, args, 2, trapped(77, 9*levels+c[0]+6))
	}
	wantEval(t, p, []api.Value{{Re: 34}, {Re: 250}}, 2, maxFuel, spent)
}

// wantRefused: p cannot begin with these arguments and this seed, whatever the fuel.
func wantRefused(t *testing.T, p api.Prog, args []api.Value, s int) {
	t.Helper()
	for _, fuel := range append([]int{1, 2, 50, 99999, maxFuel}, noFuels...) {
		wantEval(t, p, args, s, fuel, refused)
	}
}

// P10.1: a program that is not valid or not safe is refused, even where it would not come to what is wrong.
func TestRefusesPrograms(t *testing.T) {
	ret := []api.Instr{{Op: 0, A: 1}, {Op: 15}}
	good := api.Func{Code: ret}
	wantEnds(t, api.Prog{good}, nil, 0, ended(1, 0, 2))
	wantEnds(t, slices.Repeat(api.Prog{good}, 16), nil, 0, ended(1, 0, 2))
	for _, p := range []api.Prog{nil, {}, make(api.Prog, 1), make(api.Prog, 16), slices.Repeat(api.Prog{good}, 17), slices.Repeat(api.Prog{good}, 1<<16)} {
		wantRefused(t, p, nil, 0)
	}
	bad := []api.Func{
		{}, {Code: slices.Repeat(ret, 101)}, {Code: []api.Instr{{Op: 17}, {Op: 15}}}, {Code: []api.Instr{{Op: 0, A: 251}, {Op: 15}}}, {Code: []api.Instr{{Op: -1}}},
		{Code: ret, Arity: -1}, {Code: ret, Locals: -1}, {Code: ret, Slots: -1}, {Code: ret, Locals: 17}, {Code: ret, Slots: 9}, {Code: ret, Slots: math.MinInt}, {Code: ret, Locals: math.MaxInt},
		{Code: ret, Arity: 1}, {Code: ret, Arity: 3, Locals: 2}, {Code: ret, Arity: 16, Locals: 15},
		{Code: []api.Instr{{Op: 1}, {Op: 15}}}, {Locals: 2, Code: []api.Instr{{Op: 1, A: 2}, {Op: 15}}}, {Locals: 2, Code: []api.Instr{{Op: 0}, {Op: 2, A: 2}, {Op: 16, A: 20}}},
		{Code: []api.Instr{{Op: 14}, {Op: 15}}}, {Slots: 3, Code: []api.Instr{{Op: 14, A: 3}, {Op: 15}}}, {Code: []api.Instr{{Op: 13}, {Op: 16, A: 20}}}, {Slots: 1, Code: []api.Instr{{Op: 13, A: 15}, {Op: 16, A: 20}}},
		{Code: []api.Instr{{Op: 10, A: 1}}}, {Code: []api.Instr{{Op: 0}, {Op: 11, A: 3}, {Op: 16, A: 20}}},
		{Code: []api.Instr{{Op: 15}}}, {Code: []api.Instr{{Op: 0}, {Op: 3}, {Op: 15}}}, {Code: append(slices.Repeat([]api.Instr{{}}, 17), api.Instr{Op: 15})}, {Code: []api.Instr{{}, {Op: 10}}},
		{Code: []api.Instr{{}}}, {Code: []api.Instr{{Op: 16, A: 20}, {Op: 1}}}, {Code: []api.Instr{{Op: 16, A: 20}, {Op: 10, A: 2}}},
		{Code: []api.Instr{{}, {Op: 11, A: 4}, {}, {Op: 15}, {Op: 9}}}, // it would go on elsewhere
	}
	for _, f := range bad {
		wantRefused(t, api.Prog{f}, make([]api.Value, min(20, max(0, f.Arity))), 0)
		wantRefused(t, api.Prog{good, f}, nil, 0)
		wantRefused(t, append(slices.Repeat(api.Prog{good}, 14), f), nil, 0)
	}
}

// P10.1: arguments that are not as many as function 0 takes, or of which one is not valid.
func TestRefusesArguments(t *testing.T) {
	for arity := range 17 {
		f := api.Func{Arity: arity, Locals: 16, Code: []api.Instr{{Op: 1, A: 15}, {Op: 15}}}
		other := api.Func{Arity: (arity + 1) % 17, Locals: 16, Code: f.Code}
		for _, many := range []int{0, 1, 2, 3, 4, 5, 6, 7, 8, 9, 10, 11, 12, 13, 14, 15, 16, 17, 256, 256 + arity, 1<<16 + arity} {
			p := api.Prog{f, other}
			if many != arity {
				wantRefused(t, p, values(many), 1)
				continue
			}
			v := values(16)[15]
			if arity < 16 {
				v = api.Value{}
			}
			wantEnds(t, p, values(many), 1, ended(v.Re, v.Im, 2))
		}
		for at := range arity {
			for _, n := range []int{-1, -250, 251, 252, 502, 1 << 32, math.MinInt, math.MaxInt} {
				for _, v := range []api.Value{{Re: n}, {Im: n}, {Re: n, Im: n}, {Re: 250, Im: n}} {
					args := values(arity)
					args[at] = v
					wantRefused(t, api.Prog{f}, args, 1)
				}
			}
		}
	}
}

// P10.1: numbers that are no seed.
func TestRefusesSeeds(t *testing.T) {
	p := parsed(t, "func 0 0 0; push 1 2; ret")
	for _, s := range []int{0, 1, 251, 1<<31 - 1, 1 << 31, 1<<32 - 2, 1<<32 - 1} {
		wantEnds(t, p, nil, s, ended(1, 2, 2))
	}
	for _, s := range []int{-1, -2, -1 << 31, -1 << 32, 1 << 32, 1<<32 + 1, 1 << 33, 1 << 48, math.MinInt, math.MinInt + 1, math.MaxInt} {
		wantRefused(t, p, nil, s)
		wantRefused(t, p, values(1), s)
		wantRefused(t, nil, nil, s)
	}
}

// R5: no arguments and an empty list of them are the same, as are functions without code.
func TestEmptyLists(t *testing.T) {
	p := parsed(t, "func 0 0 1; spawn 1 0; join 0; ret; func 0 0 0; rand; ret")
	is := evaluated(p, nil, 9, 100)
	if is.e != api.OK || is.many != 5 {
		t.Errorf("%v", is)
	}
	wantEnds(t, p, []api.Value{}, 9, is)
	wantEnds(t, p, values(3)[:0], 9, is)
	wantRefused(t, api.Prog{{Code: []api.Instr{}}}, nil, 9)
}

// R4: neither the program nor the arguments are changed, nor what stands behind them in their memory.
func TestArgumentsKept(t *testing.T) {
	d := dice(7)
	for range 300 {
		p := d.prog()
		args := d.args(p)
		roomy := append(slices.Clone(p), api.Func{Arity: 77})
		mark := api.Instr{Op: 99, A: 98, B: 97}
		for i := range roomy {
			many := len(roomy[i].Code)
			roomy[i].Code = append(slices.Clone(roomy[i].Code), mark)[:many]
		}
		wide := append(slices.Clone(args), values(20)...)
		evaluated(roomy[:len(p)], wide[:len(args)], d.below(1<<32), 1+d.below(500))
		if !code.Same(roomy[:len(p)], p) || roomy[len(p)].Arity != 77 || !slices.Equal(wide, append(slices.Clone(args), values(20)...)) {
			t.Errorf("%s with %v: changed, or what stands behind it", told(p), args)
		}
		for _, f := range roomy[:len(p)] {
			if many := len(f.Code); f.Code[:many+1][many] != mark {
				t.Errorf("%s: what stands behind a function's instructions was changed", told(p))
			}
		}
	}
}

// P10.2, R3: the same verdict again, in other memory, after other calls, and beside them.
func TestAgain(t *testing.T) {
	d := dice(8)
	var all sync.WaitGroup
	for range 200 {
		p, s, fuel := d.prog(), d.below(1<<32), 1+d.below(300)
		args := d.args(p)
		is := evaluated(p, args, s, fuel)
		q, _ := code.Decode(code.Encode(p))
		for range 3 {
			all.Add(1)
			go func() {
				defer all.Done()
				wantEval(t, q, slices.Clone(args), s, fuel, is)
			}()
		}
		wantEval(t, q, slices.Clone(args), s, 1, evaluated(p, args, s, 1))
		wantEval(t, q, slices.Clone(args), s, fuel, is)
	}
	all.Wait()
}
