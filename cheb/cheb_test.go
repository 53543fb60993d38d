package cheb_test

import (
	"math"
	"math/big"
	"slices"
	"testing"

	"orrery/api"
	"orrery/cheb"
	"orrery/grain"
	"orrery/turn"
)

const (
	least  = 0x1p-200 // the least magnitude above 0 that is fit
	great  = 0x1p40   // the greatest magnitude of a coefficient
	latest = 0x1p24   // of a time
)

var negZero = math.Copysign(0, -1)

func at(x, y, z float64) api.Vec { return api.Vec{X: x, Y: y, Z: z} }

func to(lo, hi float64) api.Span { return api.Span{Lo: lo, Hi: hi} }

func point(x float64) api.Span { return to(x, x) }

// same: the same number, noughts only with the same sign.
func same(a, b float64) bool { return math.Float64bits(a) == math.Float64bits(b) }

func same32(a, b float32) bool { return math.Float32bits(a) == math.Float32bits(b) }

func sameVec(a, b api.Vec) bool { return same(a.X, b.X) && same(a.Y, b.Y) && same(a.Z, b.Z) }

func sameSpan(a, b api.Span) bool { return same(a.Lo, b.Lo) && same(a.Hi, b.Hi) }

func sameBox(a, b api.Box) bool {
	return sameSpan(a.X, b.X) && sameSpan(a.Y, b.Y) && sameSpan(a.Z, b.Z)
}

// A toldList, a toldPack, a toldPlace, a toldVec and a toldBox are what a call answered.
type (
	toldList struct {
		l   []float64
		err api.Errno
	}
	toldPack struct {
		l   []float32
		off float64
		err api.Errno
	}
	toldPlace struct {
		row int
		x   float64
		err api.Errno
	}
	toldVec struct {
		v   api.Vec
		err api.Errno
	}
	toldBox struct {
		b   api.Box
		err api.Errno
	}
)

func ofList(l []float64, err api.Errno) toldList              { return toldList{l, err} }
func ofPack(l []float32, off float64, err api.Errno) toldPack { return toldPack{l, off, err} }
func ofPlace(row int, x float64, err api.Errno) toldPlace     { return toldPlace{row, x, err} }
func ofVec(v api.Vec, err api.Errno) toldVec                  { return toldVec{v, err} }
func ofBox(b api.Box, err api.Errno) toldBox                  { return toldBox{b, err} }
func (a toldVec) is(v api.Vec, err api.Errno) bool            { return sameVec(a.v, v) && a.err == err }
func (a toldBox) is(b api.Box, err api.Errno) bool            { return sameBox(a.b, b) && a.err == err }
func (a toldList) refused(err api.Errno) bool                 { return a.is(nil, err) }
func (a toldPack) refused(err api.Errno) bool                 { return a.is(nil, 0, err) }
func (a toldPlace) refused(err api.Errno) bool                { return a.is(0, 0, err) }
func (a toldVec) refused(err api.Errno) bool                  { return a.is(api.Vec{}, err) }
func (a toldBox) refused(err api.Errno) bool                  { return a.is(api.Box{}, err) }
func (a toldList) is(l []float64, err api.Errno) bool {
	return slices.EqualFunc(a.l, l, same) && a.err == err
}
func (a toldPack) is(l []float32, off float64, err api.Errno) bool {
	return slices.EqualFunc(a.l, l, same32) && same(a.off, off) && a.err == err
}
func (a toldPlace) is(row int, x float64, err api.Errno) bool {
	return a.row == row && same(a.x, x) && a.err == err
}

func check(t *testing.T, ok bool, tell ...any) {
	t.Helper()
	if !ok {
		t.Error(tell...)
	}
}

// A chance answers numbers that depend on nothing but how many were asked for ahead of them.
type chance uint64

func (c *chance) bits() uint64 {
	*c = *c*6364136223846793005 + 1442695040888963407
	return uint64(*c ^ *c>>29)
}

func (c *chance) below(n int) int { return int(c.bits() >> 11 % uint64(n)) }

// part: from 0 on, below 1.
func (c *chance) part() float64 { return float64(c.bits()>>11) / (1 << 53) }

func (c *chance) either(x float64) float64 {
	if c.below(2) == 0 {
		return -x
	}
	return x
}

// number: of a magnitude from 2^low on, below 2^high.
func (c *chance) number(low, high int) float64 {
	return c.either(math.Ldexp(1+c.part(), low+c.below(high-low)))
}

// some: a number that is at most greatest: 0, an end, of a few quarters, or another.
func (c *chance) some(greatest float64) float64 {
	switch c.below(8) {
	case 0:
		return c.either(0)
	case 1:
		return c.either(greatest)
	case 2:
		return c.either(least)
	case 3, 4:
		return float64(c.below(41)-20) / 4
	case 5:
		return c.number(-200, int(math.Log2(greatest)))
	}
	return c.number(-10, int(math.Log2(greatest)))
}

// coefficients: any, or (mostly) of like magnitudes, so that none swallows the others.
func (c *chance) coefficients() []float64 {
	low := c.below(220) - 200
	tame := c.below(4) > 0
	l := make([]float64, c.below(api.MaxTerms+1))
	for i := range l {
		l[i] = c.some(great)
		if tame {
			l[i] = c.number(low, low+20)
		}
	}
	return l
}

// The chapter's examples.

func TestExamples(t *testing.T) {
	l := ofList(cheb.Nodes(3))
	check(t, l.is([]float64{0.8660254037844387, 0, -0.8660254037844387}, api.OK), "Nodes", l)
	l = ofList(cheb.Fit([]float64{1, 2, 4}))
	check(t, l.is([]float64{2.3333333333333335, -1.7320508075688774, 0.33333333333333365}, api.OK), "Fit", l)
	p := ofPack(cheb.Pack([]float64{0.1, 2}))
	check(t, p.is([]float32{0.1, 2}, 1.4920260527073736e-09, api.OK), "Pack", p)
	none := api.Table{From: 1, Step: 1}
	check(t, cheb.Check(none) == api.OK, "Check of no rows")
	check(t, ofVec(cheb.At(none, 1)).refused(api.ErrDate), "At of no rows")
	check(t, cheb.Check(api.Table{From: 1}) == api.ErrTable, "Step 0")
	nan := float32(math.NaN())
	check(t, cheb.Check(api.Table{Step: 1, Rows: [][3][]float32{{nil, {1, nan}, nil}}}) == api.ErrTable, "a NaN")
}

// P13.1: what is taken.

func TestCountsOfNodes(t *testing.T) {
	for n := 1; n <= 16; n++ {
		l := ofList(cheb.Nodes(n))
		check(t, l.err == api.OK && len(l.l) == n, "Nodes", n, l)
	}
	for _, n := range []int{0, -1, -16, 17, 18, 32, 256, 1<<32 + 3, -1 << 62, math.MinInt, math.MaxInt} {
		l := ofList(cheb.Nodes(n))
		check(t, l.refused(api.ErrArg), "Nodes", n, l)
	}
}

// unfit: numbers that are never taken.
func unfit() []float64 {
	return []float64{
		math.NaN(), math.Float64frombits(0xfff0000000000123), math.Inf(1), math.Inf(-1), math.SmallestNonzeroFloat64,
		-math.SmallestNonzeroFloat64, grain.Prev(least), -grain.Prev(least), 0x1p-1000, grain.Next(0x1p200),
		-grain.Next(0x1p200), math.MaxFloat64, -math.MaxFloat64,
	}
}

// beyond: unfit numbers, and those above a greatest magnitude.
func beyond(greatest float64) []float64 {
	next := grain.Next(greatest)
	return append(unfit(), next, -next, 2*greatest, -2*greatest, 0x1p200, -0x1p200)
}

// upTo: numbers that are taken up to a greatest magnitude.
func upTo(greatest float64) []float64 {
	return []float64{0, negZero, least, -least, 0.1, -0.1, greatest, -greatest, grain.Prev(greatest), -grain.Prev(greatest)}
}

func TestCoefficientsThatMayBe(t *testing.T) {
	refused := func(l []float64, err api.Errno) {
		t.Helper()
		check(t, ofList(cheb.Fit(l)).refused(err), "Fit", l)
		check(t, ofPack(cheb.Pack(l)).refused(err), "Pack", l)
	}
	taken := func(l []float64) {
		t.Helper()
		c, err := cheb.Fit(l)
		check(t, len(c) == len(l) && err == api.OK, "Fit", l, c, err)
		p, _, err := cheb.Pack(l)
		check(t, len(p) == len(l) && err == api.OK, "Pack", l, p, err)
	}
	for n := range 17 {
		taken(make([]float64, n))
	}
	for _, n := range []int{17, 18, 100, 5000} {
		refused(make([]float64, n), api.ErrLong)
	}
	taken(nil)
	for _, x := range upTo(great) {
		taken([]float64{x})
		taken(append(make([]float64, 15), x))
	}
	for _, x := range beyond(great) {
		refused([]float64{x}, api.ErrFit)
		refused([]float64{1, x}, api.ErrFit)
		refused(append(make([]float64, 15), x), api.ErrFit)
		refused(append(make([]float64, 16), x), api.ErrLong) // ahead of ErrFit
		refused(append([]float64{x}, make([]float64, 16)...), api.ErrLong)
	}
}

// The chapter's words once more: each operation worked with the library's numbers of any length and rounded once.

func by(call func(z, x, y *big.Float) *big.Float, x, y float64) float64 {
	z, _ := call(new(big.Float).SetPrec(53), big.NewFloat(x), big.NewFloat(y)).Float64()
	return z
}

func plus(x, y float64) float64  { return by((*big.Float).Add, x, y) }
func minus(x, y float64) float64 { return by((*big.Float).Sub, x, y) }
func times(x, y float64) float64 { return by((*big.Float).Mul, x, y) }
func over(x, y float64) float64  { return by((*big.Float).Quo, x, y) }

func fitted(x float64) float64 {
	if -least < x && x < least {
		return 0
	}
	return x
}

// cosine: of j (2 k + 1) / (4 n) turns.
func cosine(t *testing.T, j, k, n int) float64 {
	t.Helper()
	x, err := turn.Cos(over(float64(j*(2*k+1)), float64(4*n)))
	check(t, err == api.OK, j, k, n, err)
	return x
}

func TestNodesByTheChaptersWords(t *testing.T) {
	for n := 1; n <= 16; n++ {
		want := make([]float64, n)
		for k := range n {
			want[k] = cosine(t, 1, k, n)
		}
		l := ofList(cheb.Nodes(n))
		check(t, l.is(want, api.OK), "Nodes", n, l, want)
	}
}

func TestNodesWorkedOut(t *testing.T) {
	root := 0.7071067811865476
	for n, want := range map[int][]float64{1: {0}, 2: {root, -root}} {
		l := ofList(cheb.Nodes(n))
		check(t, l.is(want, api.OK), "Nodes", n, l)
	}
	for n := 1; n <= 16; n++ {
		l, err := cheb.Nodes(n)
		check(t, err == api.OK, n, err)
		for k, x := range l {
			near := math.Cos(math.Pi * float64(2*k+1) / float64(2*n))
			check(t, math.Abs(x-near) < 0x1p-50, "Nodes", n, k, x, "not", near)
			check(t, -1 < x && x < 1 && (k == 0 || x < l[k-1]), "Nodes", n, k, l)
			check(t, 2*k+1 != n || same(x, 0), "Nodes", n, k, x)
		}
	}
}

func wantFit(t *testing.T, values []float64) []float64 {
	t.Helper()
	n := len(values)
	c := make([]float64, n)
	for j := range n {
		sum := 0.0
		for k := range n {
			sum = plus(sum, times(values[k], cosine(t, j, k, n)))
		}
		if j > 0 {
			sum = times(2, sum)
		}
		c[j] = fitted(over(sum, float64(n))) + 0
	}
	return c
}

func wantPack(c []float64) ([]float32, float64) {
	packed := make([]float32, len(c))
	off, total := 0.0, 0.0
	for k, a := range c {
		packed[k] = float32(a) + 0
		off = plus(off, math.Abs(minus(a, float64(packed[k]))))
		total = plus(total, math.Abs(a))
	}
	return packed, plus(off, over(total, 0x1p40))
}

func TestCoefficientsByTheChaptersWords(t *testing.T) {
	c := chance(1)
	for range 4000 {
		l := c.coefficients()
		fit, want := ofList(cheb.Fit(l)), wantFit(t, l)
		check(t, fit.is(want, api.OK), "Fit", l, fit, want)
		packed, off := wantPack(l)
		p := ofPack(cheb.Pack(l))
		check(t, p.is(packed, off, api.OK), "Pack", l, p, packed, off)
	}
}

func TestFitWorkedOut(t *testing.T) {
	type l = []float64
	root := 0.7071067811865476
	for _, c := range []struct{ values, want l }{
		{nil, nil},
		{l{3}, l{3}},
		{l{-3}, l{-3}},
		{l{3, 3}, l{3, 0}},
		{l{root, -root}, l{0, root * (root + root)}}, // x itself
		{l{-5, -5, -5, -5}, l{-5, 0, 0, 0}},
		{l{1, 3}, l{2, root - times(3, root)}},
		{l{great, great}, l{great, 0}},
		{l{great, -great}, l{0, 2 * great * root}}, // above what coefficients may be
		{l{least}, l{least}},
		{l{least, 0}, l{0, 0}},                        // halves of it are too small
		{l{least, -least}, l{0, 2 * least * root}},    // a sum of small ones is not
		{l{2 * least, 0}, l{least, 2 * least * root}}, // 2 times comes ahead of the quotient
	} {
		fit := ofList(cheb.Fit(c.values))
		check(t, fit.is(c.want, api.OK), "Fit", c.values, fit, "not", c.want)
	}
	first, _ := cheb.Fit(l{0x1p-13, 0x1p-13, great, 0}) // in order: the small ones are summed ahead of the great one
	last, _ := cheb.Fit(l{great, 0x1p-13, 0x1p-13, 0})
	check(t, first[0] == great/4+0x1p-14 && last[0] == great/4, "Fit", first, last)
}

// Products are rounded ahead of the sums in which they stand: numbers of which fused sums would be others.
func TestNothingIsFused(t *testing.T) {
	for _, x := range []float64{0.1, 0.7, -1.0 / 3, 1e5 + 0.1} {
		fit := ofList(cheb.Fit([]float64{x, x})) // the cosines are each other's negative
		check(t, fit.is([]float64{x, 0}, api.OK), "Fit", x, fit)
	}
}

func TestPackWorkedOut(t *testing.T) {
	for _, c := range []struct {
		a    float64
		want float32
		rest float64
	}{
		{0, 0, 0},
		{negZero, 0, 0},
		{3, 3, 0},
		{-3, -3, 0},
		{great, 0x1p40, 0},
		{grain.Prev(great), 0x1p40, 0x1p-13},
		{-grain.Prev(great), -0x1p40, 0x1p-13},
		{1 + 0x1p-24, 1, 0x1p-24}, // of two equally near ones the even one
		{1 + 0x1.8p-23, 1 + 0x1p-22, 0x1p-24},
		{0.1, 0.1, 1.4901161138336505e-09},
		{0x1p-149, 0x1p-149, 0}, // the least of binary32
		{0x1.8p-149, 0x1p-148, 0x1p-150},
		{0x1p-150, 0, 0x1p-150},
		{-0x1p-150, 0, 0x1p-150},
		{-0x1.8p-149, -0x1p-148, 0x1p-150},
		{grain.Next(0x1p-150), 0x1p-149, 0x1p-149 - grain.Next(0x1p-150)},
		{least, 0, least},
		{-least, 0, least},
	} {
		p := ofPack(cheb.Pack([]float64{c.a}))
		off := plus(c.rest, math.Abs(c.a)/0x1p40)
		check(t, p.is([]float32{c.want}, off, api.OK), "Pack", c.a, p, "not", c.want, off)
	}
	p := ofPack(cheb.Pack(nil))
	check(t, p.is(nil, 0, api.OK), "Pack", p)
	p = ofPack(cheb.Pack([]float64{1 + 0x1p-24, -1 - 0x1p-24, 2, -0x1p-150})) // magnitudes, all of them
	check(t, p.is([]float32{1, -1, 2, 0}, 0x1p-23+0x1p-38+0x1p-63, api.OK), "Pack", p)
	p = ofPack(cheb.Pack([]float64{0x1p-13, 0x1p-13, great})) // in order
	check(t, p.is([]float32{0x1p-13, 0x1p-13, 0x1p40}, 1+0x1p-52, api.OK), "Pack", p)
	p = ofPack(cheb.Pack([]float64{great, 0x1p-13, 0x1p-13}))
	check(t, p.is([]float32{0x1p40, 0x1p-13, 0x1p-13}, 1, api.OK), "Pack", p)
}
