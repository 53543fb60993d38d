package vec_test

import (
	"math"
	"math/big"
	"testing"

	"orrery/api"
	"orrery/grain"
	"orrery/turn"
	"orrery/vec"
)

const (
	least    = 0x1p-200 // the least magnitude above 0 that is fit
	greatest = 0x1p60   // the greatest one of a vector's numbers
)

var negZero = math.Copysign(0, -1)

func at(x, y, z float64) api.Vec { return api.Vec{X: x, Y: y, Z: z} }

func rows(a, b, c api.Vec) api.Mat { return api.Mat{a, b, c} }

// same: the same number, noughts only with the same sign.
func same(a, b float64) bool { return math.Float64bits(a) == math.Float64bits(b) }

func sameVec(a, b api.Vec) bool { return same(a.X, b.X) && same(a.Y, b.Y) && same(a.Z, b.Z) }

func sameMat(a, b api.Mat) bool {
	return sameVec(a[0], b[0]) && sameVec(a[1], b[1]) && sameVec(a[2], b[2])
}

// A chance answers numbers that depend on nothing but how many were asked for ahead of them.
type chance uint64

func (c *chance) bits() uint64 {
	*c = *c*6364136223846793005 + 1442695040888963407
	return uint64(*c ^ *c>>29)
}

func (c *chance) below(n int) int { return int(c.bits() >> 11 % uint64(n)) }

// part: from 0 on, below 1.
func (c *chance) part() float64 { return float64(c.bits()>>11) / (1 << 53) }

// number: of a magnitude from 2^low on, below 2^high.
func (c *chance) number(low, high int) float64 {
	x := math.Ldexp(1+c.part(), low+c.below(high-low))
	if c.below(3) == 0 { // few digits, so that results may be exact
		x = math.Ldexp(float64(4+c.below(4)), low-2+c.below(high-low))
	}
	if c.below(2) == 0 {
		return -x
	}
	return x
}

// edge: a number at an end of what is taken, or another that stands out.
func (c *chance) edge() float64 {
	l := []float64{0, least, grain.Next(least), 0x1p-190, 0x1p-100, 0.1, 0.5, 1, 3, 0x1p30, grain.Prev(greatest), greatest}
	return math.Copysign(l[c.below(len(l))], 0.5-float64(c.below(2)))
}

// vector: one whose numbers lie near each other, or far apart, or at the edges.
func (c *chance) vector() api.Vec {
	low, high := -200, 60
	if c.below(3) > 0 {
		low = c.below(250) - 200
		high = low + 1 + c.below(6)
	}
	one := func() float64 {
		if c.below(5) == 0 {
			return c.edge()
		}
		return c.number(low, high)
	}
	return at(one(), one(), one())
}

// matrix: one that turns, or any.
func (c *chance) matrix() api.Mat {
	if c.below(2) == 0 {
		m, _ := vec.Turned(c.below(3), c.number(-20, 20))
		return m
	}
	return rows(c.vector(), c.vector(), c.vector())
}

// edges: vectors of every three of a few numbers that stand out.
func edges() []api.Vec {
	l := []float64{0, negZero, least, -0.1, 3, grain.Prev(greatest), -greatest}
	var all []api.Vec
	for _, x := range l {
		for _, y := range l {
			for _, z := range l {
				all = append(all, at(x, y, z))
			}
		}
	}
	return all
}

// vectors: the edges, and many others.
func vectors() []api.Vec {
	l := edges()
	c := chance(1)
	for range 1000 {
		l = append(l, c.vector())
	}
	return l
}

// matrices: the edges, and many others.
func matrices() []api.Mat {
	e := edges()
	c := chance(2)
	var l []api.Mat
	for i := range e {
		l = append(l, rows(e[i], e[c.below(len(e))], e[c.below(len(e))]))
	}
	for range 1000 {
		l = append(l, c.matrix())
	}
	return l
}

// partners: vectors to be taken together with a: itself, what it is negated, another near to it, and others.
func partners(c *chance, a api.Vec) []api.Vec {
	e := edges()
	return []api.Vec{a, at(-a.X, -a.Y, -a.Z), at(a.X, -a.Y, 0), at(a.Y, a.X, a.Z), c.vector(), c.vector(), e[c.below(len(e))]}
}

// The chapter's words once more, by big's numbers: wide enough for any sum or product of two numbers, then rounded once.

func exact(x float64) *big.Float { return new(big.Float).SetPrec(4000).SetFloat64(x) }

func sum(x, y *big.Float) *big.Float { return new(big.Float).SetPrec(4000).Add(x, y) }

func times(x, y *big.Float) *big.Float { return new(big.Float).SetPrec(4000).Mul(x, y) }

func rounded(x *big.Float) float64 {
	y, _ := x.Float64()
	return y
}

func plus(x, y float64) float64 { return rounded(sum(exact(x), exact(y))) }

func prod(x, y float64) float64 { return rounded(times(exact(x), exact(y))) }

func root(x float64) float64 {
	return rounded(new(big.Float).SetPrec(53).Sqrt(exact(x)))
}

func quot(x, y float64) float64 {
	return rounded(new(big.Float).SetPrec(53).Quo(exact(x), exact(y)))
}

func wantDot(a, b api.Vec) float64 {
	return plus(plus(prod(a.X, b.X), prod(a.Y, b.Y)), prod(a.Z, b.Z))
}

func wantCross(a, b api.Vec) api.Vec {
	return at(plus(prod(a.Y, b.Z), -prod(a.Z, b.Y)), plus(prod(a.Z, b.X), -prod(a.X, b.Z)), plus(prod(a.X, b.Y), -prod(a.Y, b.X)))
}

func wantApply(m api.Mat, v api.Vec) api.Vec {
	return at(wantDot(m[0], v), wantDot(m[1], v), wantDot(m[2], v))
}

func wantTimes(a, b api.Mat) api.Mat {
	var m api.Mat
	for i := range 3 {
		m[i].X = wantDot(a[i], at(b[0].X, b[1].X, b[2].X))
		m[i].Y = wantDot(a[i], at(b[0].Y, b[1].Y, b[2].Y))
		m[i].Z = wantDot(a[i], at(b[0].Z, b[1].Z, b[2].Z))
	}
	return m
}

// answered: what a number of a vector counts as in an answer, and whether it may stand there.
func answered(x float64) (float64, bool) {
	switch a := math.Abs(x); {
	case a < least:
		return 0, true
	case a > greatest:
		return 0, false
	}
	return x, true
}

func answeredVec(v api.Vec) (api.Vec, api.Errno) {
	x, one := answered(v.X)
	y, two := answered(v.Y)
	z, three := answered(v.Z)
	if !one || !two || !three {
		return api.Vec{}, api.ErrFit
	}
	return at(x, y, z), api.OK
}

func answeredMat(m api.Mat) (api.Mat, api.Errno) {
	var l api.Mat
	for i, v := range m {
		var err api.Errno
		if l[i], err = answeredVec(v); err != api.OK {
			return api.Mat{}, err
		}
	}
	return l, api.OK
}

// A toldVec, a toldMat and a toldNumber are what a call answered.
type (
	toldVec struct {
		v   api.Vec
		err api.Errno
	}
	toldMat struct {
		m   api.Mat
		err api.Errno
	}
	toldNumber struct {
		x   float64
		err api.Errno
	}
)

func ofVec(v api.Vec, err api.Errno) toldVec        { return toldVec{v, err} }
func ofMat(m api.Mat, err api.Errno) toldMat        { return toldMat{m, err} }
func ofNumber(x float64, err api.Errno) toldNumber  { return toldNumber{x, err} }
func (a toldVec) same(b toldVec) bool               { return sameVec(a.v, b.v) && a.err == b.err }
func (a toldMat) same(b toldMat) bool               { return sameMat(a.m, b.m) && a.err == b.err }
func (a toldNumber) same(b toldNumber) bool         { return same(a.x, b.x) && a.err == b.err }
func (a toldVec) is(v api.Vec, err api.Errno) bool  { return a.same(ofVec(v, err)) }
func (a toldMat) is(m api.Mat, err api.Errno) bool  { return a.same(ofMat(m, err)) }
func (a toldNumber) is(x float64, e api.Errno) bool { return a.same(ofNumber(x, e)) }

func check(t *testing.T, ok bool, tell ...any) {
	t.Helper()
	if !ok {
		t.Error(tell...)
	}
}

// P7.1: what is taken.

func TestVectorsByTheChaptersWords(t *testing.T) {
	s := chance(3)
	for _, a := range vectors() {
		for _, b := range partners(&s, a) {
			got := ofVec(vec.Add(a, b))
			check(t, got.same(ofVec(answeredVec(at(plus(a.X, b.X), plus(a.Y, b.Y), plus(a.Z, b.Z))))), "Add", a, b, got)
			got = ofVec(vec.Sub(a, b))
			check(t, got.same(ofVec(answeredVec(at(plus(a.X, -b.X), plus(a.Y, -b.Y), plus(a.Z, -b.Z))))), "Sub", a, b, got)
			got = ofVec(vec.Cross(a, b))
			check(t, got.same(ofVec(answeredVec(wantCross(a, b)))), "Cross", a, b, got)
			x := ofNumber(vec.Dot(a, b))
			check(t, x.is(wantDot(a, b)+0, api.OK), "Dot", a, b, x) // +0 makes +0 of -0
		}
	}
}

func TestLengthsByTheChaptersWords(t *testing.T) {
	for _, a := range vectors() {
		n := root(wantDot(a, a))
		x := ofNumber(vec.Norm(a))
		check(t, x.is(n+0, api.OK), "Norm", a, x)
		got := ofVec(vec.Unit(a))
		if n == 0 {
			check(t, got.is(api.Vec{}, api.ErrZero), "Unit", a, got)
			continue
		}
		check(t, got.same(ofVec(answeredVec(at(quot(a.X, n), quot(a.Y, n), quot(a.Z, n))))), "Unit", a, got)
	}
}

func TestMatricesByTheChaptersWords(t *testing.T) {
	s := chance(4)
	vs, ms := vectors(), matrices()
	for _, m := range ms {
		for range 4 {
			v := vs[s.below(len(vs))]
			got := ofVec(vec.Apply(m, v))
			check(t, got.same(ofVec(answeredVec(wantApply(m, v)))), "Apply", m, v, got)
			b := ms[s.below(len(ms))]
			times := ofMat(vec.Times(m, b))
			check(t, times.same(ofMat(answeredMat(wantTimes(m, b)))), "Times", m, b, times)
		}
		flipped := rows(at(m[0].X, m[1].X, m[2].X), at(m[0].Y, m[1].Y, m[2].Y), at(m[0].Z, m[1].Z, m[2].Z))
		got := ofMat(vec.Flip(m))
		check(t, got.same(ofMat(answeredMat(flipped))), "Flip", m, got)
	}
}

// turns: numbers of turns: the quarters and eighths, the ends of what is taken, and others.
func turns() []float64 {
	l := []float64{negZero, least, -least, 0x1p-100, 0x1p40, -0x1p40, grain.Prev(0x1p40), 0.1, -0.7, 1.0 / 3}
	for i := range 33 {
		l = append(l, float64(i-16)/8)
	}
	c := chance(5)
	for range 500 {
		l = append(l, c.number(-200, 40), c.number(-10, 5))
	}
	return l
}

func TestTurnedByTheChaptersWords(t *testing.T) {
	for _, x := range turns() {
		s, c, err := turn.Both(x)
		check(t, err == api.OK, x, err)
		for axis, m := range []api.Mat{
			rows(at(1, 0, 0), at(0, c, -s), at(0, s, c)),
			rows(at(c, 0, s), at(0, 1, 0), at(-s, 0, c)),
			rows(at(c, -s, 0), at(s, c, 0), at(0, 0, 1)),
		} {
			got := ofMat(vec.Turned(axis, x))
			check(t, got.same(ofMat(answeredMat(m))), "Turned", axis, x, got)
		}
	}
}

// Worked out beside the program, by hand or by another one.
func TestWorkedOut(t *testing.T) {
	a, b := at(0.1, 0.2, 0.3), at(0.7, -1.1, 1.3)
	dot := ofNumber(vec.Dot(a, b))
	check(t, dot.is(0x1.eb851eb851eb8p-3, api.OK), "Dot", dot)
	cross := ofVec(vec.Cross(a, b))
	check(t, cross.is(at(0x1.2e147ae147ae2p-1, 0x1.47ae147ae147ap-4, -0.25), api.OK), "Cross", cross)
	norm := ofNumber(vec.Norm(a))
	check(t, norm.is(0x1.7f254dab9cc3bp-2, api.OK), "Norm", norm)
	unit := ofVec(vec.Unit(a))
	check(t, unit.is(at(0x1.11acee560242ap-2, 0x1.11acee560242ap-1, 0x1.9a8365810363ep-1), api.OK), "Unit", unit)
	m, _ := vec.Turned(2, 0.125)
	apply := ofVec(vec.Apply(m, at(1, 0, 7)))
	check(t, apply.is(at(0.7071067811865476, 0.7071067811865475, 7), api.OK), "Apply", apply)
	p := rows(at(1, 2, 3), at(4, 5, 6), at(7, 8, 9))
	q := rows(at(-1, 0, 2), at(0.5, 1, -3), at(2, 0, 1))
	pq := ofMat(vec.Times(p, q))
	check(t, pq.is(rows(at(6, 2, -1), at(10.5, 5, -1), at(15, 8, -1)), api.OK), "Times", pq)
	flip := ofMat(vec.Flip(p))
	check(t, flip.is(rows(at(1, 4, 7), at(2, 5, 8), at(3, 6, 9)), api.OK), "Flip", flip)
	apply = ofVec(vec.Apply(p, at(1, 10, 100)))
	check(t, apply.is(at(321, 654, 987), api.OK), "Apply", apply)
}

// A product is rounded ahead of the sum in which it stands: fused, these would be other numbers.
func TestNothingIsFused(t *testing.T) {
	x := grain.Next(1)
	square := float64(x * x) // less than the exact one
	a := at(x, square, 0)
	got := ofNumber(vec.Dot(a, at(x, -1, 0)))
	check(t, got.is(0, api.OK), "Dot", got)
	got = ofNumber(vec.Dot(at(square, x, 0), at(-1, x, 0)))
	check(t, got.is(0, api.OK), "Dot", got)
	got = ofNumber(vec.Dot(at(0, square, x), at(0, -1, x)))
	check(t, got.is(0, api.OK), "Dot", got)
	v := ofVec(vec.Cross(at(x, x, x), at(x, x, x)))
	check(t, v.is(api.Vec{}, api.OK), "Cross", v)
}

// The order of the sum: the third product comes to the sum of the first two.
func TestOrderOfTheProduct(t *testing.T) {
	one := at(1, 1, 1)
	for _, c := range []struct {
		v    api.Vec
		want float64
	}{{at(0x1p55, -0x1p55, 1), 1}, {at(1, 0x1p55, -0x1p55), 0}, {at(0x1p55, 1, -0x1p55), 0}, {at(0x1p53, 1, 1), 0x1p53}, {at(1, 1, 0x1p53), 0x1p53 + 2}} {
		got := ofNumber(vec.Dot(c.v, one))
		check(t, got.is(c.want, api.OK), "Dot", c.v, got)
		v := ofVec(vec.Apply(rows(c.v, one, one), one))
		check(t, same(v.v.X, c.want), "Apply", c.v, v)
	}
}

// Answers: too small, too great, and noughts.

func TestTooSmallCountsAsNought(t *testing.T) {
	tiny := 0x1p-150
	m := rows(at(tiny, 0, 0), at(0, tiny, 0), at(0, 0, -tiny))
	all := at(tiny, -tiny, tiny)
	for _, got := range []toldVec{
		ofVec(vec.Sub(at(grain.Next(least), 0, 1), at(least, 0, 1))),
		ofVec(vec.Add(at(least, grain.Next(-2*least), 0), at(grain.Prev(-2*least), 2*least, 0))),
		ofVec(vec.Cross(all, at(tiny, tiny, -2*tiny))),
		ofVec(vec.Apply(m, all)),
	} {
		for _, x := range []float64{got.v.X, got.v.Y, got.v.Z} {
			check(t, same(x, 0) || math.Abs(x) >= least, got)
		}
		check(t, got.err == api.OK, got)
	}
	check(t, ofVec(vec.Apply(m, all)).is(api.Vec{}, api.OK), "Apply")
	check(t, ofMat(vec.Times(m, m)).is(api.Mat{}, api.OK), "Times")
	check(t, ofVec(vec.Unit(at(greatest, -least, 0))).is(at(1, 0, 0), api.OK), "Unit")
	check(t, ofVec(vec.Unit(at(least, 0, 0))).is(at(1, 0, 0), api.OK), "Unit of the least")
	check(t, ofVec(vec.Sub(at(0x1p-147, 0, 0), at(grain.Prev(0x1p-147), 0, 0))).is(at(least, 0, 0), api.OK), "Sub to the least")
	check(t, ofVec(vec.Sub(at(0x1p-148, 0, 0), at(grain.Prev(0x1p-148), 0, 0))).is(api.Vec{}, api.OK), "Sub below the least")
	// numbers that are no vector's are told as they are
	check(t, ofNumber(vec.Dot(at(least, 0, 0), at(-least, 0, 0))).is(-0x1p-400, api.OK), "Dot of the least")
	check(t, ofNumber(vec.Norm(at(0, -least, 0))).is(least, api.OK), "Norm of the least")
}

func TestTooGreatIsRefused(t *testing.T) {
	most, half := at(greatest, 0, 0), 0x1p59
	over := grain.Next(greatest)
	for _, turned := range []func(float64, float64, float64) api.Vec{
		at,
		func(x, y, z float64) api.Vec { return at(z, x, y) },
		func(x, y, z float64) api.Vec { return at(y, z, x) },
	} {
		v, h := turned(greatest, 0, 0), turned(half, 0, 0)
		check(t, ofVec(vec.Add(h, h)).is(v, api.OK), "Add", h)
		check(t, ofVec(vec.Add(v, v)).is(api.Vec{}, api.ErrFit), "Add", v)
		check(t, ofVec(vec.Add(v, turned(0x1p8, 1, 1))).is(api.Vec{}, api.ErrFit), "Add", v)
		check(t, ofVec(vec.Add(v, turned(0x1p7, 1, 1))).is(turned(greatest, 1, 1), api.OK), "Add, a tie to even", v)
		check(t, ofVec(vec.Sub(h, turned(-half, 0, 0))).is(v, api.OK), "Sub", h)
		check(t, ofVec(vec.Sub(turned(-half, 0, 0), h)).is(turned(-greatest, 0, 0), api.OK), "Sub", h)
		check(t, ofVec(vec.Sub(v, turned(-greatest, 0, 0))).is(api.Vec{}, api.ErrFit), "Sub", v)
		check(t, ofVec(vec.Cross(turned(0, 0x1p30, 0), turned(0, 0, 0x1p30))).is(v, api.OK), "Cross", v)
		check(t, ofVec(vec.Cross(turned(0, 0x1p30, 0), turned(0, 0, grain.Next(0x1p30)))).is(api.Vec{}, api.ErrFit), "Cross", v)
		check(t, ofVec(vec.Apply(rows(turned(1, 1, 1), turned(0, 1, 0), turned(0, 0, 1)), turned(half, half, 0))).err == api.OK, "Apply", v)
		check(t, ofVec(vec.Apply(rows(turned(1, 1, 1), turned(0, 1, 0), turned(0, 0, 1)), turned(half, half, 0x1p8))).is(api.Vec{}, api.ErrFit), "Apply", v)
		big := rows(v, api.Vec{}, api.Vec{})
		for range 3 { // each row in its turn
			big = rows(big[2], big[0], big[1])
			check(t, ofVec(vec.Apply(big, turned(1, 0, 0))).err == api.OK, "Apply", big)
			check(t, ofVec(vec.Apply(big, turned(grain.Next(1), 0, 0))).is(api.Vec{}, api.ErrFit), "Apply", big)
			check(t, ofMat(vec.Times(big, rows(at(1, 1, 1), at(1, 1, 1), at(1, 1, 1)))).err == api.OK, "Times", big)
			check(t, ofMat(vec.Times(big, rows(at(2, 1, 1), at(1, 2, 1), at(1, 1, 2)))).is(api.Mat{}, api.ErrFit), "Times", big)
		}
	}
	check(t, ofVec(vec.Unit(most)).is(at(1, 0, 0), api.OK), "Unit")
	// numbers that are no vector's are told as they are
	check(t, ofNumber(vec.Dot(at(greatest, greatest, greatest), at(greatest, greatest, greatest))).is(0x3p120, api.OK), "Dot")
	check(t, ofNumber(vec.Norm(at(greatest, 0, greatest))).is(0x1.6a09e667f3bcdp60, api.OK), "Norm")
	check(t, !vec.Fit(at(over, 0, 0)), "Fit")
}

func TestNoughtsHaveNoSign(t *testing.T) {
	none := at(negZero, negZero, negZero)
	check(t, ofVec(vec.Add(none, none)).is(api.Vec{}, api.OK), "Add")
	check(t, ofVec(vec.Sub(none, api.Vec{})).is(api.Vec{}, api.OK), "Sub")
	check(t, ofNumber(vec.Dot(none, at(1, 1, 1))).is(0, api.OK), "Dot")
	check(t, ofVec(vec.Cross(at(1, 1, 1), none)).is(api.Vec{}, api.OK), "Cross")
	check(t, ofNumber(vec.Norm(none)).is(0, api.OK), "Norm")
	check(t, ofVec(vec.Unit(none)).is(api.Vec{}, api.ErrZero), "Unit")
	check(t, ofVec(vec.Unit(at(negZero, -2, negZero))).is(at(0, -1, 0), api.OK), "Unit")
	check(t, ofVec(vec.Apply(rows(none, none, none), at(1, 1, 1))).is(api.Vec{}, api.OK), "Apply")
	check(t, ofMat(vec.Flip(rows(none, none, none))).is(api.Mat{}, api.OK), "Flip")
	check(t, ofMat(vec.Times(rows(none, none, none), rows(at(1, 1, 1), at(1, 1, 1), at(1, 1, 1)))).is(api.Mat{}, api.OK), "Times")
	one := rows(at(1, 0, 0), at(0, 1, 0), at(0, 0, 1))
	for axis := range 3 {
		check(t, ofMat(vec.Turned(axis, negZero)).is(one, api.OK), "Turned", axis)
		check(t, ofMat(vec.Turned(axis, 3)).is(one, api.OK), "Turned", axis)
	}
}

// P7.1: what is refused, in its order.

// unfit: numbers that are no number of anything.
func unfit() []float64 {
	var l []float64
	for _, x := range []float64{math.NaN(), math.Float64frombits(0x7ff0000000000001), math.Inf(1), math.MaxFloat64, 0x1p201, grain.Next(0x1p200), grain.Prev(least), 0x1p-201, 0x1p-1022, 0x1p-1074} {
		l = append(l, x, math.Copysign(x, -1))
	}
	return l
}

// above: numbers whose magnitude is above most, and such that aren't fit.
func above(most float64) []float64 {
	return append(unfit(), grain.Next(most), -grain.Next(most), 2*most, -2*most, 0x1p200, -0x1p200)
}

// badVectors: what are no vectors.
func badVectors() []api.Vec {
	var l []api.Vec
	for _, x := range above(greatest) {
		l = append(l, at(x, 0, 0), at(1, x, 1), at(0, -3, x), at(x, x, x))
	}
	return l
}

// badMatrices: what are no matrices.
func badMatrices() []api.Mat {
	var l []api.Mat
	for _, v := range badVectors() {
		one := at(1, 2, 3)
		l = append(l, rows(v, one, one), rows(one, v, one), rows(api.Vec{}, one, v))
	}
	return l
}

func TestFit(t *testing.T) {
	for _, v := range vectors() {
		check(t, vec.Fit(v), "Fit", v)
	}
	for _, v := range badVectors() {
		check(t, !vec.Fit(v), "Fit", v)
	}
}

func TestBadVectors(t *testing.T) {
	m := rows(at(1, 0, 0), at(0, 1, 0), at(0, 0, 1))
	for _, v := range badVectors() {
		for _, w := range append([]api.Vec{{}, at(1, 2, 3), at(greatest, 0, 0)}, v) {
			for _, p := range [][2]api.Vec{{v, w}, {w, v}} {
				check(t, ofVec(vec.Add(p[0], p[1])).is(api.Vec{}, api.ErrFit), "Add", p)
				check(t, ofVec(vec.Sub(p[0], p[1])).is(api.Vec{}, api.ErrFit), "Sub", p)
				check(t, ofVec(vec.Cross(p[0], p[1])).is(api.Vec{}, api.ErrFit), "Cross", p)
				check(t, ofNumber(vec.Dot(p[0], p[1])).is(0, api.ErrFit), "Dot", p)
			}
		}
		check(t, ofNumber(vec.Norm(v)).is(0, api.ErrFit), "Norm", v)
		check(t, ofVec(vec.Unit(v)).is(api.Vec{}, api.ErrFit), "Unit", v)
		check(t, ofVec(vec.Apply(m, v)).is(api.Vec{}, api.ErrFit), "Apply", v)
		check(t, ofVec(vec.Apply(api.Mat{}, v)).is(api.Vec{}, api.ErrFit), "Apply", v)
	}
}

func TestBadMatrices(t *testing.T) {
	one := rows(at(1, 0, 0), at(0, 1, 0), at(0, 0, 1))
	for _, m := range badMatrices() {
		check(t, ofVec(vec.Apply(m, at(1, 2, 3))).is(api.Vec{}, api.ErrFit), "Apply", m)
		check(t, ofVec(vec.Apply(m, api.Vec{})).is(api.Vec{}, api.ErrFit), "Apply", m)
		check(t, ofMat(vec.Flip(m)).is(api.Mat{}, api.ErrFit), "Flip", m)
		for _, b := range []api.Mat{one, {}, m} {
			check(t, ofMat(vec.Times(m, b)).is(api.Mat{}, api.ErrFit), "Times", m, b)
			check(t, ofMat(vec.Times(b, m)).is(api.Mat{}, api.ErrFit), "Times", b, m)
		}
	}
}

func badAxes() []int { return []int{-1, 3, 4, -3, math.MaxInt, math.MinInt} }

func TestBadTurns(t *testing.T) {
	for _, axis := range badAxes() {
		for _, x := range []float64{0, 0.25, 0x1p41, math.NaN()} { // the axis comes ahead of x
			check(t, ofMat(vec.Turned(axis, x)).is(api.Mat{}, api.ErrArg), "Turned", axis, x)
		}
	}
	for axis := range 3 {
		for _, x := range above(0x1p40) {
			check(t, ofMat(vec.Turned(axis, x)).is(api.Mat{}, api.ErrFit), "Turned", axis, x)
		}
	}
}

func TestExamples(t *testing.T) {
	check(t, ofVec(vec.Unit(at(3, 4, 0))).is(at(0.6, 0.8, 0), api.OK), "Unit")
	check(t, ofMat(vec.Turned(2, 0.25)).is(rows(at(0, -1, 0), at(1, 0, 0), at(0, 0, 1)), api.OK), "Turned")
	check(t, ofVec(vec.Cross(at(1, 0, 0), at(0, 1, 0))).is(at(0, 0, 1), api.OK), "Cross")
	check(t, ofVec(vec.Unit(api.Vec{})).is(api.Vec{}, api.ErrZero), "Unit of none")
	check(t, ofMat(vec.Turned(3, 0)).is(api.Mat{}, api.ErrArg), "Turned about no axis")
	box := ofBox(vec.BoxTurn(2, to(0, 1), boxOf(at(1, 0, 0))))
	check(t, box.is(api.Box{X: to(-1, 1), Y: to(-1, 1)}, api.OK), "BoxTurn", box)
}
