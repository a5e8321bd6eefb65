package gauss_test

import (
	"math"
	"math/big"
	"strconv"
	"testing"
	"transhumance/api"
	"transhumance/gauss"
)

// many is how many values there are.
const many = 251 * 251

// parts are numbers at the edges of what a part may be, and far outside.
var parts = []int{0, 1, 2, 16, 125, 126, 249, 250, 251, 252, 501, 502, 503, 63000, 63001, 1<<31 - 1, 1 << 53, 1<<53 + 1, 1<<53 + 2, 1 << 62, math.MaxInt - 1, math.MaxInt, -1, -2, -125, -126, -250, -251, -252, -501, -502, -503, -1 << 53, -1<<53 - 1, math.MinInt + 1, math.MinInt}

// zeros are parts that are reduced to 0.
var zeros = []int{0, 251, -251, 502, -502, 63001, 251 * (math.MaxInt / 251), 251 * (math.MinInt / 251)}

func v(re, im int) api.Value {
	return api.Value{Re: re, Im: im}
}

// nth is the value with the number n of those from 0 to many - 1; the first one is 0.
func nth(n int) api.Value {
	return v(n/251, n%251)
}

// wide are values with all pairs of parts.
func wide() []api.Value {
	var l []api.Value
	for _, re := range parts {
		for _, im := range parts {
			l = append(l, v(re, im))
		}
	}
	return l
}

// some are reduced values at the edges, and more in no plain order.
func some(more int) []api.Value {
	var l []api.Value
	for _, re := range []int{0, 1, 125, 126, 250} {
		for _, im := range []int{0, 1, 125, 126, 250} {
			l = append(l, v(re, im))
		}
	}
	x := uint32(more)
	for range more {
		x = x*1664525 + 1013904223
		l = append(l, nth(int(x>>8)%many))
	}
	return l
}

// exact is a value made of parts of any size, each reduced by the library's division.
func exact(re, im *big.Int) api.Value {
	m := big.NewInt(251)
	return v(int(new(big.Int).Mod(re, m).Int64()), int(new(big.Int).Mod(im, m).Int64()))
}

func whole(n int) *big.Int {
	return big.NewInt(int64(n))
}

// sum, difference and product take the parts as they are: what is reduced at the end is the same.
func sum(a, b api.Value) api.Value {
	return exact(new(big.Int).Add(whole(a.Re), whole(b.Re)), new(big.Int).Add(whole(a.Im), whole(b.Im)))
}

func difference(a, b api.Value) api.Value {
	return exact(new(big.Int).Sub(whole(a.Re), whole(b.Re)), new(big.Int).Sub(whole(a.Im), whole(b.Im)))
}

func product(a, b api.Value) api.Value {
	times := func(x, y int) *big.Int { return new(big.Int).Mul(whole(x), whole(y)) }
	re := new(big.Int).Sub(times(a.Re, b.Re), times(a.Im, b.Im))
	im := new(big.Int).Add(times(a.Re, b.Im), times(a.Im, b.Re))
	return exact(re, im)
}

func want(t *testing.T, what string, a, b, got, is api.Value) {
	t.Helper()
	if got != is {
		t.Errorf("%s of %d and %d: %d, want %d", what, a, b, got, is)
	}
}

// wantSums: the results of two values are those of exact arithmetic.
func wantSums(t *testing.T, a, b api.Value) {
	t.Helper()
	want(t, "Add", a, b, gauss.Add(a, b), sum(a, b))
	want(t, "Sub", a, b, gauss.Sub(a, b), difference(a, b))
	want(t, "Mul", a, b, gauss.Mul(a, b), product(a, b))
}

// wantDiv: the quotient is a reduced value whose product with b is the reduced a, and there is none if b is 0.
func wantDiv(t *testing.T, a, b api.Value) {
	t.Helper()
	q, ok := gauss.Div(a, b)
	zero := exact(whole(b.Re), whole(b.Im)) == v(0, 0)
	if ok == zero || zero && q != v(0, 0) {
		t.Errorf("Div of %d and %d: %d, %t", a, b, q, ok)
	}
	if !zero && (product(q, b) != exact(whole(a.Re), whole(a.Im)) || q != exact(whole(q.Re), whole(q.Im))) {
		t.Errorf("Div of %d and %d: %d, whose product with the second one is %d", a, b, q, product(q, b))
	}
}

func wantPow(t *testing.T, a api.Value, n int, is api.Value) {
	t.Helper()
	if got := gauss.Pow(a, n); got != is {
		t.Errorf("Pow of %d, %d: %d, want %d", a, n, got, is)
	}
}

// Words: a value's parts are from 0 to 250.
func TestMay(t *testing.T) {
	for re := -600; re <= 600; re++ {
		for im := -600; im <= 600; im++ {
			is := re >= 0 && re <= 250 && im >= 0 && im <= 250
			if gauss.May(v(re, im)) != is {
				t.Fatalf("May of %d, %d: %t", re, im, !is)
			}
		}
	}
	for _, x := range wide() {
		if is := x == exact(whole(x.Re), whole(x.Im)); gauss.May(x) != is {
			t.Errorf("May of %d: %t", x, !is)
		}
	}
}

// P4.1
func TestOf(t *testing.T) {
	for n := range many {
		x := nth(n)
		if got := gauss.Of(x.Re, x.Im); got != x {
			t.Fatalf("Of %d: %d", x, got)
		}
		if got := gauss.Of(x.Re-251, x.Im+502); got != x {
			t.Fatalf("Of %d, %d: %d, want %d", x.Re-251, x.Im+502, got, x)
		}
	}
	for _, x := range wide() {
		want(t, "Of", x, x, gauss.Of(x.Re, x.Im), exact(whole(x.Re), whole(x.Im)))
	}
	for _, re := range zeros {
		for _, im := range zeros {
			want(t, "Of", v(re, im), v(0, 0), gauss.Of(re, im), v(0, 0))
			want(t, "Of", v(re+1, im), v(0, 0), gauss.Of(re+1, im), v(1, 0))
		}
	}
}

// P4.1
func TestKnown(t *testing.T) {
	i := v(0, 1)
	want(t, "Mul", i, i, gauss.Mul(i, i), v(250, 0))
	want(t, "Mul", v(2, 3), v(4, 5), gauss.Mul(v(2, 3), v(4, 5)), v(244, 22))
	want(t, "Mul", v(250, 250), v(250, 250), gauss.Mul(v(250, 250), v(250, 250)), v(0, 2))
	want(t, "Mul", v(0, 250), v(0, 250), gauss.Mul(v(0, 250), v(0, 250)), v(250, 0))
	want(t, "Add", v(250, 1), v(1, 250), gauss.Add(v(250, 1), v(1, 250)), v(0, 0))
	want(t, "Add", v(250, 250), v(250, 250), gauss.Add(v(250, 250), v(250, 250)), v(249, 249))
	want(t, "Sub", v(0, 250), v(250, 0), gauss.Sub(v(0, 250), v(250, 0)), v(1, 250))
	want(t, "Sub", v(1, 2), v(1, 2), gauss.Sub(v(1, 2), v(1, 2)), v(0, 0))
}

// P4.1: sums and products of parts of any size, which are reduced before, and so do not wrap round or lose what floats have no place for.
func TestSums(t *testing.T) {
	for n := range many {
		wantSums(t, nth(n), nth(many-1-n))
		wantSums(t, nth(n), nth(n*7919%many))
	}
	for _, a := range some(200) {
		for _, b := range some(201) {
			wantSums(t, a, b)
		}
	}
	l := wide()
	for i, a := range l {
		for j := i % 7; j < len(l); j += 7 {
			wantSums(t, a, l[j])
		}
		wantSums(t, a, a)
	}
}

// P4.1
func TestConj(t *testing.T) {
	for n := range many {
		a := nth(n)
		want(t, "Conj", a, a, gauss.Conj(a), v(a.Re, (251-a.Im)%251))
	}
	for _, a := range wide() {
		want(t, "Conj", a, a, gauss.Conj(a), exact(whole(a.Re), new(big.Int).Neg(whole(a.Im))))
	}
}

// P4.2
func TestDivKnown(t *testing.T) {
	for _, c := range []struct{ a, b, q api.Value }{
		{v(0, 0), v(1, 0), v(0, 0)},
		{v(7, 9), v(1, 0), v(7, 9)},
		{v(7, 9), v(7, 9), v(1, 0)},
		{v(1, 0), v(2, 0), v(126, 0)},
		{v(1, 0), v(0, 1), v(0, 250)},
		{v(11, 2), v(3, 4), v(92, 129)}, // 41 - 38 i, times 241, which is the inverse of 25
		{v(252, -1), v(-250, 502), v(1, 250)},
	} {
		q, ok := gauss.Div(c.a, c.b)
		if !ok {
			t.Errorf("Div of %d and %d: false", c.a, c.b)
		}
		want(t, "Div", c.a, c.b, q, c.q)
	}
}

// P4.2: each value but 0 divides.
func TestDiv(t *testing.T) {
	for n := range many {
		b := nth(n)
		wantDiv(t, v(1, 0), b)
		wantDiv(t, b, b)
		wantDiv(t, nth(many-1-n), b)
		wantDiv(t, v(0, 0), b)
	}
	for _, a := range some(40) {
		for _, b := range some(41) {
			wantDiv(t, a, b)
		}
	}
	for i, a := range wide() {
		wantDiv(t, a, v(3, 4))
		wantDiv(t, v(3, 4), a)
		wantDiv(t, a, nth(i))
		wantDiv(t, a, a)
	}
}

// P4.2
func TestDivZero(t *testing.T) {
	for _, re := range zeros {
		for _, im := range zeros {
			for _, a := range []api.Value{v(0, 0), v(1, 0), v(250, 250), v(-1, 7), v(re, im), v(math.MaxInt, math.MinInt)} {
				wantDiv(t, a, v(re, im))
			}
			wantDiv(t, v(re, im), v(1, 1))
		}
	}
}

// P4.2: by multiplying again and again.
func TestPow(t *testing.T) {
	for _, a := range append(some(30), v(-1, 251), v(math.MinInt, math.MaxInt), v(502, -251), v(300, -300)) {
		p := v(1, 0)
		for n := range 520 {
			wantPow(t, a, n, p)
			p = product(p, a)
		}
	}
}

// P4.2
func TestPowEdges(t *testing.T) {
	for _, a := range wide() {
		wantPow(t, a, 0, v(1, 0)) // 0 with no factors, too
		wantPow(t, a, 1, exact(whole(a.Re), whole(a.Im)))
		wantPow(t, a, 2, product(a, a))
		for _, n := range []int{-1, -2, -251, -62999, -63000, -1 << 32, math.MinInt, math.MinInt + 1} {
			wantPow(t, a, n, v(0, 0))
		}
	}
	for _, re := range zeros {
		for _, n := range []int{1, 2, 3, 63000, 1 << 62, math.MaxInt} {
			wantPow(t, v(re, -re), n, v(0, 0))
		}
	}
}

// P4.2: so many factors as an int may be; those above the last multiple of 63000 decide.
func TestPowMany(t *testing.T) {
	for _, a := range some(30) {
		if a == v(0, 0) {
			continue
		}
		for _, n := range []int{62999, 63000, 63001, 126000, 1<<31 - 1, 1 << 31, 1 << 32, 1<<48 - 1, 1 << 53, 1<<53 + 1, 1 << 62, math.MaxInt - 1, math.MaxInt} {
			p := v(1, 0)
			for range n % 63000 % 251 {
				p = product(p, a)
			}
			for range n % 63000 / 251 {
				p = product(p, gauss.Pow(a, 251))
			}
			wantPow(t, a, n, p)
		}
	}
}

// P4.3
func TestText(t *testing.T) {
	for _, c := range []struct {
		x api.Value
		s string
	}{
		{v(0, 0), "0+0i"},
		{v(1, 2), "1+2i"},
		{v(250, 250), "250+250i"},
		{v(-1, 5), "250+5i"},
		{v(251, -251), "0+0i"},
		{v(10, 100), "10+100i"},
		{v(502, -1), "0+250i"},
	} {
		if s := gauss.Text(c.x); s != c.s {
			t.Errorf("Text of %d: %q, want %q", c.x, s, c.s)
		}
	}
	texts := wide()
	for n := range many {
		texts = append(texts, nth(n))
	}
	for _, x := range texts {
		is := exact(whole(x.Re), whole(x.Im))
		s := strconv.FormatInt(int64(is.Re), 10) + "+" + strconv.FormatInt(int64(is.Im), 10) + "i"
		if got := gauss.Text(x); got != s {
			t.Errorf("Text of %d: %q, want %q", x, got, s)
		}
	}
}

// wantField: what holds in a field for any three values.
func wantField(t *testing.T, a, b, c api.Value) {
	t.Helper()
	add, mul := gauss.Add, gauss.Mul
	want(t, "Add, swapped,", a, b, add(a, b), add(b, a))
	want(t, "Mul, swapped,", a, b, mul(a, b), mul(b, a))
	want(t, "Add, grouped,", a, b, add(add(a, b), c), add(a, add(b, c)))
	want(t, "Mul, grouped,", a, b, mul(mul(a, b), c), mul(a, mul(b, c)))
	want(t, "Mul of a sum", a, b, mul(add(a, b), c), add(mul(a, c), mul(b, c)))
	want(t, "Add after Sub", a, b, add(gauss.Sub(a, b), b), gauss.Of(a.Re, a.Im))
	for _, got := range []api.Value{add(a, b), gauss.Sub(a, b), mul(a, b), gauss.Conj(a)} {
		if !gauss.May(got) {
			t.Errorf("a result of %d and %d is not reduced: %d", a, b, got)
		}
	}
	zero := v(0, 0)
	if none := add(a, zero) == zero || add(b, zero) == zero; (mul(a, b) == zero) != none {
		t.Errorf("the product of %d and %d: %d", a, b, mul(a, b))
	}
}

// P4.4
func TestField(t *testing.T) {
	l := some(40)
	for _, a := range l {
		for _, b := range l {
			for _, c := range l {
				wantField(t, a, b, c)
			}
		}
	}
	for n := range many {
		wantField(t, nth(n), nth(n*7919%many), nth(n*104729%many))
	}
	outside := wide()
	for i, a := range outside {
		for j := i % 31; j < len(outside); j += 31 {
			wantField(t, a, outside[j], outside[(i+j)%len(outside)])
		}
	}
}

// P4.4: that a product of values other than 0 is another one than 0 follows for all of them from this, and from their being grouped as one likes.
func TestPower(t *testing.T) {
	for n := 1; n < many; n++ {
		wantPow(t, nth(n), 63000, v(1, 0))
		want(t, "Mul with a power", nth(n), nth(n), gauss.Mul(nth(n), gauss.Pow(nth(n), 62999)), v(1, 0))
	}
	wantPow(t, v(0, 0), 63000, v(0, 0))
}

// P4.4: the powers of one value are all values but 0, each once.
func TestPowersOfOne(t *testing.T) {
	g := generator(t)
	var seen [many]bool
	p := v(1, 0)
	for n := range many - 1 {
		wantPow(t, g, n, p)
		if seen[p.Re*251+p.Im] || p == v(0, 0) {
			t.Fatalf("power %d of %d: %d, which is an earlier one or 0", n, g, p)
		}
		seen[p.Re*251+p.Im] = true
		p = gauss.Mul(p, g)
	}
	want(t, "the last power", g, g, p, v(1, 0))
}

// generator finds a value none of whose smaller powers is 1: 63000 is made of the primes 2, 3, 5 and 7.
func generator(t *testing.T) api.Value {
	one := v(1, 0)
	for n := 1; n < many; n++ {
		a := nth(n)
		if gauss.Pow(a, 31500) != one && gauss.Pow(a, 21000) != one && gauss.Pow(a, 12600) != one && gauss.Pow(a, 9000) != one {
			return a
		}
	}
	t.Fatal("no value has all others as its powers")
	return one
}

// P4.1, P4.2, P4.4
func FuzzField(f *testing.F) {
	for i, a := range parts {
		f.Add(a, parts[(i+1)%len(parts)], parts[(i+2)%len(parts)], parts[(i+3)%len(parts)], i)
	}
	f.Fuzz(func(t *testing.T, re, im, re2, im2, n int) {
		a, b := v(re, im), v(re2, im2)
		wantSums(t, a, b)
		wantDiv(t, a, b)
		wantField(t, a, b, v(im, re2))
		if got := gauss.Pow(a, n); n < 0 && got != v(0, 0) || !gauss.May(got) {
			t.Errorf("Pow of %d, %d: %d", a, n, got)
		}
	})
}
