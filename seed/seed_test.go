package seed_test

import (
	"math"
	"math/big"
	"testing"
	"transhumance/api"
	"transhumance/gauss"
	"transhumance/seed"
)

// seeds are seeds, and indices, at the edges and between them.
var seeds = []int{0, 1, 2, 3, 7, 9, 250, 251, 1<<13 - 1, 1 << 13, 1<<15 - 1, 1 << 15, 1<<16 - 1, 1 << 16, 1<<16 + 1, 0x12345678, 0x85EBCA6B, 0x9E3779B1, 1<<31 - 1, 1 << 31, 1<<31 + 1, 1<<32 - 251, 1<<32 - 3, 1<<32 - 2, 1<<32 - 1}

// noSeeds are numbers that are no seeds.
var noSeeds = []int{-1, -2, -251, -1 << 31, -1<<31 - 1, -1 << 32, -1<<32 + 1, math.MinInt, math.MinInt + 1, 1 << 32, 1<<32 + 1, 1<<32 + 9, 1 << 33, 1<<48 - 1, 1 << 53, 1 << 62, math.MaxInt - 1, math.MaxInt}

func v(re, im int) api.Value {
	return api.Value{Re: re, Im: im}
}

// isSeed: so many bits, and none before them.
func isSeed(n int) bool {
	return big.NewInt(int64(n)).Sign() >= 0 && big.NewInt(int64(n)).BitLen() <= 32
}

// some are the seeds of above, and more in no plain order.
func some(more int) []int {
	l := append([]int(nil), seeds...)
	x := uint64(more)
	for range more {
		x = x*6364136223846793005 + 1442695040888963407
		l = append(l, int(x>>32))
	}
	return l
}

// times is a product modulo 2^32, of the library's exact numbers.
func times(a, b int) int {
	p := new(big.Int).Mul(big.NewInt(int64(a)), big.NewInt(int64(b)))
	return int(p.Mod(p, big.NewInt(1<<32)).Int64())
}

// inverse is the number whose product with the odd factor is 1.
func inverse(factor int) int {
	return int(new(big.Int).ModInverse(big.NewInt(int64(factor)), big.NewInt(1<<32)).Int64())
}

var unspread, unscatter = inverse(0x9E3779B1), inverse(0x85EBCA6B)

// mixed is what P5.1 says, step by step, with every sum and product as exact as it may become.
func mixed(s, n int) int {
	if !isSeed(s) || !isSeed(n) {
		return 0
	}
	x := s ^ times(n+1, 0x9E3779B1)
	x = times(x^x/(1<<15), 0x85EBCA6B)
	x = times(x^x/(1<<15), 0x85EBCA6B)
	return x ^ x/(1<<13)
}

// unfold finds the number of which x is the XOR with itself, moved down by some bits: its highest ones are those of x, and tell the next ones.
func unfold(x, bits int) int {
	y := x
	for range 32 / bits {
		y = x ^ y>>bits
	}
	return y
}

// unmixed goes back from a result to the XOR that Mix begins with.
func unmixed(x int) int {
	x = unfold(x, 13)
	x = unfold(times(x, unscatter), 15)
	return unfold(times(x, unscatter), 15)
}

// seedOf and numberOf go back from a result of Mix to the one argument, by the other one.
func seedOf(x, n int) int {
	return unmixed(x) ^ times(n+1, 0x9E3779B1)
}

func numberOf(x, s int) int {
	return times(times(unmixed(x)^s, unspread)+1<<32-1, 1)
}

func wantMix(t *testing.T, s, n, is int) {
	t.Helper()
	if got := seed.Mix(s, n); got != is {
		t.Errorf("Mix of %#x, %#x: %#x, want %#x", s, n, got, is)
	}
}

func wantChild(t *testing.T, s, k, is int) {
	t.Helper()
	if got := seed.Child(s, k); got != is {
		t.Errorf("Child of %#x, %#x: %#x, want %#x", s, k, got, is)
	}
}

func wantDraw(t *testing.T, s, k int, is api.Value) {
	t.Helper()
	if got := seed.Draw(s, k); got != is {
		t.Errorf("Draw of %#x, %#x: %d, want %d", s, k, got, is)
	}
}

// wantUses: what P5.2 says of a seed and an index, or of what is none.
func wantUses(t *testing.T, s, k int) {
	t.Helper()
	if !isSeed(s) || !isSeed(k) {
		wantChild(t, s, k, 0)
		wantDraw(t, s, k, v(0, 0))
		return
	}
	wantChild(t, s, k, mixed(mixed(s, 1), k))
	d := mixed(mixed(s, 2), k)
	wantDraw(t, s, k, v(d%251, d/65536%251))
}

// P5.1, P5.2: numbers that were reckoned by other means, by the words of the document.
func TestKnown(t *testing.T) {
	for _, c := range []struct {
		s, n, mix, child int
		draw             api.Value
	}{
		{0, 0, 0x5E9B621F, 0xE4663AF7, v(62, 84)},
		{0, 1, 0xAEACB6CD, 0x1CC3A5A1, v(11, 210)},
		{1, 0, 0x34457A0C, 0x18CE5EC2, v(51, 159)},
		{0, 0xFFFFFFFF, 0x00000000, 0xBF2EE04C, v(206, 27)}, // the number after the last one is 0
		{0xFFFFFFFF, 0, 0x67DD4B3C, 0x8E76780A, v(144, 236)},
		{0xFFFFFFFF, 0xFFFFFFFF, 0xFB260412, 0x1C4D866B, v(149, 179)},
		{5, 6, 0x9EC4C773, 0x34DA6412, v(248, 152)},
		{6, 5, 0x16D6160D, 0x0876066F, v(115, 196)},
		{0x9E3779B1, 0, 0x00000000, 0xB37D02EB, v(31, 200)},
		{0x80000000, 0x80000000, 0x5E9B621F, 0xE8C5D774, v(239, 14)},
		{0x7FFFFFFF, 0x7FFFFFFF, 0xFB260412, 0x9F00DBD4, v(170, 176)},
		{123456789, 987654321, 0x7C157059, 0xE21090A7, v(122, 83)},
		{0, 0x80000000, 0x8E66C3C8, 0x0D02874A, v(225, 199)},
		{1, 0xFFFFFFFE, 0x67DD4B3C, 0x8FE68D30, v(207, 210)},
	} {
		wantMix(t, c.s, c.n, c.mix)
		wantChild(t, c.s, c.n, c.child)
		wantDraw(t, c.s, c.n, c.draw)
	}
}

// P5.1
func TestMix(t *testing.T) {
	l := some(600)
	for _, s := range l {
		for _, n := range l {
			wantMix(t, s, n, mixed(s, n))
		}
	}
}

// P5.1
func TestMixNoSeed(t *testing.T) {
	for _, bad := range noSeeds {
		for _, s := range seeds {
			wantMix(t, bad, s, 0)
			wantMix(t, s, bad, 0)
		}
		for _, other := range noSeeds {
			wantMix(t, bad, other, 0)
		}
	}
}

// P5.2
func TestUses(t *testing.T) {
	l := some(300)
	for _, s := range l {
		for _, k := range l {
			wantUses(t, s, k)
		}
	}
}

// P5.2
func TestUsesNoSeed(t *testing.T) {
	for _, bad := range noSeeds {
		for _, s := range seeds {
			wantUses(t, bad, s)
			wantUses(t, s, bad)
		}
		for _, other := range noSeeds {
			wantUses(t, bad, other)
		}
	}
}

// P5.2: a seed that is mixed into 0 is a seed all the same, as is a task's seed that is 0.
func TestUsesThroughZero(t *testing.T) {
	child, draw := seedOf(0, 1), seedOf(0, 2)
	wantMix(t, child, 1, 0)
	wantMix(t, draw, 2, 0)
	for _, k := range some(100) {
		wantChild(t, child, k, mixed(0, k))
		d := mixed(0, k)
		wantDraw(t, draw, k, v(d%251, d/65536%251))
		wantUses(t, 0, k)
	}
	for _, s := range some(100) { // and an index that makes 0
		wantChild(t, s, numberOf(0, mixed(s, 1)), 0)
		wantDraw(t, s, numberOf(0, mixed(s, 2)), v(0, 0))
	}
}

// P5.2: the value's parts are of the number's whole and of its upper half, each reduced.
func TestDrawParts(t *testing.T) {
	for _, d := range append(some(1000), 250, 251, 250<<16, 251<<16, 251<<16+251, 250<<16+250, 0xFFFF, 0xFFFF0000) {
		for _, s := range []int{0, 9, 1<<32 - 1} {
			got := seed.Draw(s, numberOf(d, mixed(s, 2)))
			if got != gauss.Of(d, d/65536) || !gauss.May(got) {
				t.Errorf("a draw of %#x: %d", d, got)
			}
		}
	}
}

// P5.3: there is a way back from each result to each argument, so that no two arguments have one result.
func TestWayBack(t *testing.T) {
	l := some(300)
	for _, a := range l {
		for _, b := range l {
			x := seed.Mix(a, b)
			if seedOf(x, b) != a || numberOf(x, a) != b {
				t.Errorf("Mix of %#x, %#x: %#x, which is that of the seed %#x or of the number %#x", a, b, x, seedOf(x, b), numberOf(x, a))
			}
			wantMix(t, seedOf(a, b), b, a)
			wantMix(t, b, numberOf(a, b), a)
		}
	}
}

// wantDifferent: a function has another result for each of many arguments, from a first one on.
func wantDifferent(t *testing.T, what string, first, many int, f func(int) int) {
	t.Helper()
	seen := make(map[int]int, many)
	for i := first; i < first+many; i++ {
		x := f(i)
		if old, ok := seen[x]; ok {
			t.Fatalf("%s: %#x and %#x both have %#x", what, old, i, x)
		}
		seen[x] = i
	}
}

// P5.3: neighbours, at both ends and about the middle.
func TestDifferent(t *testing.T) {
	const many = 1 << 15
	for _, first := range []int{0, 1<<31 - many/2, 1<<32 - many} {
		for _, fixed := range []int{0, 1, 9, 1 << 31, 1<<32 - 1} {
			wantDifferent(t, "Mix by its seed", first, many, func(s int) int { return seed.Mix(s, fixed) })
			wantDifferent(t, "Mix by its number", first, many, func(n int) int { return seed.Mix(fixed, n) })
			wantDifferent(t, "Child by its seed", first, many, func(s int) int { return seed.Child(s, fixed) })
			wantDifferent(t, "Child by its index", first, many, func(k int) int { return seed.Child(fixed, k) })
		}
	}
}

// P5.3, R3: each bit of an argument counts, and what was asked before, or refused before, does not.
func TestEveryBit(t *testing.T) {
	for _, s := range seeds {
		for _, n := range seeds {
			x := seed.Mix(s, n)
			for bit := range 32 {
				if seed.Mix(s^1<<bit, n) == x || seed.Mix(s, n^1<<bit) == x {
					t.Errorf("Mix of %#x, %#x: bit %d does not count", s, n, bit)
				}
			}
			child, draw := seed.Child(s, n), seed.Draw(s, n)
			seed.Mix(-1, n)
			seed.Child(s, -1)
			seed.Draw(1<<32, n)
			wantMix(t, s, n, x)
			wantChild(t, s, n, child)
			wantDraw(t, s, n, draw)
		}
	}
}

// P5.1, P5.2, P5.3
func FuzzSeeds(f *testing.F) {
	for i, s := range seeds {
		f.Add(s, seeds[len(seeds)-1-i])
		f.Add(s, noSeeds[i%len(noSeeds)])
		f.Add(noSeeds[i%len(noSeeds)], s)
	}
	f.Fuzz(func(t *testing.T, s, n int) {
		wantMix(t, s, n, mixed(s, n))
		wantUses(t, s, n)
		s, n = int(uint32(s)), int(uint32(n))
		wantUses(t, s, n)
		wantMix(t, seedOf(s, n), n, s)
		wantMix(t, n, numberOf(s, n), s)
	})
}
