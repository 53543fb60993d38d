package vec_test

import (
	"math"
	"math/big"
	"testing"

	"orrery/api"
	"orrery/grain"
	"orrery/span"
	"orrery/vec"
)

// negated: x with the other sign, of 0 +0.
func negated(x float64) float64 { return 0 - x }

// P7.2.

func TestEitherWay(t *testing.T) {
	s := chance(31)
	for _, a := range vectors() {
		for _, b := range partners(&s, a) {
			x, y := ofNumber(vec.Dot(a, b)), ofNumber(vec.Dot(b, a))
			check(t, x.same(y), "Dot", a, b, x, y)
			for name, call := range map[string]func(a, b api.Vec) (api.Vec, api.Errno){"Cross": vec.Cross, "Sub": vec.Sub} {
				v, w := ofVec(call(a, b)), ofVec(call(b, a))
				check(t, v.is(at(negated(w.v.X), negated(w.v.Y), negated(w.v.Z)), w.err), name, a, b, v, w)
			}
		}
	}
}

// P7.3.

// inside: a number of the span that is fit.
func (c *chance) inside(a api.Span) float64 {
	x := min(max(a.Lo+float64(c.part()*(a.Hi-a.Lo)), a.Lo), a.Hi)
	if !grain.Fit(x) {
		return a.Lo
	}
	return x
}

func (c *chance) smallerSpan(a api.Span) api.Span {
	x, y := c.inside(a), c.inside(a)
	switch c.below(5) {
	case 0:
		return point(a.Lo)
	case 1:
		return point(a.Hi)
	case 2:
		return to(a.Lo, x)
	case 3:
		return to(x, a.Hi)
	}
	return to(min(x, y), max(x, y))
}

func (c *chance) smaller(a api.Box) api.Box {
	return api.Box{X: c.smallerSpan(a.X), Y: c.smallerSpan(a.Y), Z: c.smallerSpan(a.Z)}
}

// checkSmaller: is what is answered of the smaller ones no error, and inside of what is answered of the greater ones?
func checkSmaller(t *testing.T, name string, small, great toldBox) {
	t.Helper()
	if great.err == api.OK {
		check(t, small.err == api.OK && vec.BoxInside(small.b, great.b), name, small, "not inside", great)
	}
}

func TestSmallerInSmallerOut(t *testing.T) {
	s := chance(32)
	l := boxes()
	asBox := func(a api.Span, err api.Errno) toldBox { return toldBox{api.Box{X: a}, err} }
	for _, c := range l {
		for range 4 {
			d := l[s.below(len(l))]
			a, b := s.smaller(c), s.smaller(d)
			checkSmaller(t, "BoxAdd", ofBox(vec.BoxAdd(a, b)), ofBox(vec.BoxAdd(c, d)))
			checkSmaller(t, "BoxSub", ofBox(vec.BoxSub(a, b)), ofBox(vec.BoxSub(c, d)))
			checkSmaller(t, "BoxDot", asBox(vec.BoxDot(a, b)), asBox(vec.BoxDot(c, d)))
			checkSmaller(t, "BoxLong", asBox(vec.BoxLong(a)), asBox(vec.BoxLong(c)))
			checkSmaller(t, "BoxNorm", asBox(vec.BoxNorm(a)), asBox(vec.BoxNorm(c)))
			checkSmaller(t, "BoxUnit", ofBox(vec.BoxUnit(a)), ofBox(vec.BoxUnit(c)))
		}
	}
}

// allowed: 2^-46 times the sum of the magnitudes of v, and 2^-190.
func allowed(v api.Vec) *big.Float {
	all := sum(sum(exact(math.Abs(v.X)), exact(math.Abs(v.Y))), exact(math.Abs(v.Z)))
	return sum(times(exact(0x1p-46), all), exact(0x1p-190))
}

// near: does x lie in a, or no farther off than so much?
func near(a api.Span, x float64, off *big.Float) bool {
	return sum(exact(x), off).Cmp(exact(a.Lo)) >= 0 && sum(exact(a.Hi), off).Cmp(exact(x)) >= 0
}

// P7.4, P7.5.

func TestThereAndBackAndInBoxes(t *testing.T) {
	s := chance(33)
	l := vectors()
	back := 0
	for _, x := range turns() {
		for axis := range 3 {
			m, err := vec.Turned(axis, x)
			check(t, err == api.OK, axis, x, err)
			flipped, err := vec.Flip(m)
			check(t, err == api.OK, axis, x, err)
			for range 3 {
				v := l[s.below(len(l))]
				w, err := vec.Apply(m, v)
				if err != api.OK { // turned, a number may be too great
					check(t, math.Abs(v.X)+math.Abs(v.Y)+math.Abs(v.Z) > greatest, "Apply", m, v, err)
					continue
				}
				checkHeld(t, axis, x, v, w)
				u, err := vec.Apply(flipped, w)
				if err != api.OK { // back, a number as great as may be may have grown by rounding
					check(t, max(math.Abs(v.X), math.Abs(v.Y), math.Abs(v.Z)) > 0.9999*greatest, "Apply", flipped, w, err)
					continue
				}
				back++
				off := allowed(v)
				check(t, near(point(v.X), u.X, off) && near(point(v.Y), u.Y, off) && near(point(v.Z), u.Z, off), "of", v, "about", axis, "by", x, w, "and back", u)
			}
		}
	}
	check(t, back > 5000, "only", back, "went there and back")
}

func checkHeld(t *testing.T, axis int, x float64, v, w api.Vec) {
	t.Helper()
	b, err := vec.BoxOf(v)
	check(t, err == api.OK, v, err)
	b, err = vec.BoxTurn(axis, point(x), b)
	off := allowed(v)
	check(t, err == api.OK && near(b.X, w.X, off) && near(b.Y, w.Y, off) && near(b.Z, w.Z, off), "of", v, "about", axis, "by", x, w, "not in", b, err)
}

// P7.6.

func TestUnitsAreOfLengthOne(t *testing.T) {
	tried := 0
	for _, v := range vectors() {
		u, err := vec.Unit(v)
		if err == api.ErrZero {
			continue
		}
		tried++
		n := ofNumber(vec.Norm(u))
		check(t, err == api.OK && n.err == api.OK && math.Abs(n.x-1) <= 0x1p-48, "Unit", v, u, n)
	}
	check(t, tried > 1000, tried)
}

// P4: the boxes hold the true ones, worked out without rounding.

func holds(a api.Span, x *big.Float) bool {
	return exact(a.Lo).Cmp(x) <= 0 && x.Cmp(exact(a.Hi)) <= 0
}

// within: a vector of the box.
func (c *chance) within(b api.Box) api.Vec {
	return at(c.inside(b.X), c.inside(b.Y), c.inside(b.Z))
}

func trueDot(a, b api.Vec) *big.Float {
	return sum(sum(times(exact(a.X), exact(b.X)), times(exact(a.Y), exact(b.Y))), times(exact(a.Z), exact(b.Z)))
}

func TestSumsAndProductsHoldTheTrueOnes(t *testing.T) {
	s := chance(34)
	l := boxes()
	for _, a := range l {
		for range 4 {
			b := l[s.below(len(l))]
			v, w := s.within(a), s.within(b)
			check(t, vec.BoxHas(a, v) && vec.BoxHas(b, w), "BoxHas", a, v, b, w)
			add, _ := vec.BoxAdd(a, b)
			sub, _ := vec.BoxSub(a, b)
			for _, c := range []struct {
				add, sub api.Span
				x, y     float64
			}{{add.X, sub.X, v.X, w.X}, {add.Y, sub.Y, v.Y, w.Y}, {add.Z, sub.Z, v.Z, w.Z}} {
				check(t, holds(c.add, sum(exact(c.x), exact(c.y))), "BoxAdd", a, b, add, v, w)
				check(t, holds(c.sub, sum(exact(c.x), exact(-c.y))), "BoxSub", a, b, sub, v, w)
			}
			dot, _ := vec.BoxDot(a, b)
			check(t, holds(dot, trueDot(v, w)), "BoxDot", a, b, dot, v, w)
		}
	}
}

func TestLengthsHoldTheTrueOnes(t *testing.T) {
	s := chance(35)
	for _, a := range boxes() {
		long, _ := vec.BoxLong(a)
		norm, _ := vec.BoxNorm(a)
		unit, err := vec.BoxUnit(a)
		for range 2 {
			v := s.within(a)
			square := trueDot(v, v)
			check(t, holds(long, square), "BoxLong", a, long, v)
			root := new(big.Float).SetPrec(4000).Sqrt(square)
			check(t, holds(norm, root), "BoxNorm", a, norm, v)
			if err != api.OK {
				continue
			}
			for _, c := range []struct {
				held api.Span
				x    float64
			}{{unit.X, v.X}, {unit.Y, v.Y}, {unit.Z, v.Z}} {
				check(t, holds(c.held, new(big.Float).SetPrec(4000).Quo(exact(c.x), root)), "BoxUnit", a, unit, v)
			}
		}
	}
}

// eighth: the true sine of k eighths of a turn.
func eighth(k int) *big.Float {
	slant := new(big.Float).SetPrec(4000).Sqrt(exact(0.5))
	return []*big.Float{exact(0), slant, exact(1), slant, exact(0), new(big.Float).Neg(slant), exact(-1), new(big.Float).Neg(slant)}[k&7]
}

func TestTurnedBoxesHoldTheTrueOnes(t *testing.T) {
	s := chance(36)
	l := boxes()
	for k := range 33 {
		sine, cosine := eighth(k-16), eighth(k-14)
		minus := new(big.Float).Neg(sine)
		x := float64(k-16) / 8
		for _, around := range []api.Span{point(x), to(x-0.01, x+0.3), to(x-0x1p-40, x), to(x-3, x+0.1)} {
			for range 20 {
				b := l[s.below(len(l))]
				v := s.within(b)
				u := []float64{v.X, v.Y, v.Z}
				for axis := range 3 {
					got, err := vec.BoxTurn(axis, around, b)
					spans := []api.Span{got.X, got.Y, got.Z}
					i, j := (axis+1)%3, (axis+2)%3
					p := sum(times(cosine, exact(u[i])), times(minus, exact(u[j])))
					q := sum(times(sine, exact(u[i])), times(cosine, exact(u[j])))
					check(t, err == api.OK && holds(spans[i], p) && holds(spans[j], q) && holds(spans[axis], exact(u[axis])), "BoxTurn", axis, around, b, got, "by", x, v)
				}
			}
		}
	}
}

// P1: each call answers, whatever the bits; nothing beside an error; and only what may be an answer.

func (c *chance) anyNumber() float64 {
	switch c.below(12) {
	case 0:
		return math.Float64frombits(c.bits())
	case 1:
		return above(greatest)[c.below(26)]
	case 2:
		return c.edge()
	}
	return c.number(-200, 60)
}

func (c *chance) anyVector() api.Vec { return at(c.anyNumber(), c.anyNumber(), c.anyNumber()) }

func (c *chance) anySpan() api.Span {
	x, y := c.anyNumber(), c.anyNumber()
	if c.below(6) > 0 {
		x, y = min(x, y), max(x, y)
	}
	return to(x, y)
}

func (c *chance) anyBox() api.Box { return api.Box{X: c.anySpan(), Y: c.anySpan(), Z: c.anySpan()} }

func okVec(a toldVec) bool {
	return a.err == api.OK && vec.Fit(a.v) || a.err != api.OK && sameVec(a.v, api.Vec{})
}

func okMat(a toldMat) bool {
	return okVec(toldVec{a.m[0], a.err}) && okVec(toldVec{a.m[1], a.err}) && okVec(toldVec{a.m[2], a.err})
}

func okNumber(a toldNumber) bool {
	return a.err == api.OK && math.Abs(a.x) <= 0x3p120 || a.err != api.OK && same(a.x, 0)
}

func okSpan(a toldSpan) bool {
	return a.err == api.OK && span.Check(a.s) == api.OK || a.err != api.OK && sameSpan(a.s, api.Span{})
}

func okBox(a toldBox) bool {
	return okSpan(toldSpan{a.b.X, a.err}) && okSpan(toldSpan{a.b.Y, a.err}) && okSpan(toldSpan{a.b.Z, a.err})
}

func TestAnyBitsOfVectors(t *testing.T) {
	s := chance(37)
	for range 20000 {
		a, b := s.anyVector(), s.anyVector()
		m, n := rows(a, b, s.anyVector()), rows(b, s.anyVector(), s.vector())
		axis := int(s.bits()) >> s.below(64)
		check(t, okVec(ofVec(vec.Add(a, b))), "Add", a, b)
		check(t, okVec(ofVec(vec.Sub(a, b))), "Sub", a, b)
		check(t, okVec(ofVec(vec.Cross(a, b))), "Cross", a, b)
		check(t, okVec(ofVec(vec.Unit(a))), "Unit", a)
		check(t, okVec(ofVec(vec.Apply(m, a))), "Apply", m, a)
		check(t, okMat(ofMat(vec.Flip(m))), "Flip", m)
		check(t, okMat(ofMat(vec.Times(m, n))), "Times", m, n)
		check(t, okMat(ofMat(vec.Turned(axis, a.X))), "Turned", axis, a.X)
		check(t, okNumber(ofNumber(vec.Dot(a, b))), "Dot", a, b)
		check(t, okNumber(ofNumber(vec.Norm(a))), "Norm", a)
	}
}

func TestAnyBitsOfBoxes(t *testing.T) {
	s := chance(38)
	for range 20000 {
		a, b := s.anyBox(), s.anyBox()
		axis := int(s.bits()) >> s.below(64)
		check(t, okBox(ofBox(vec.BoxOf(s.anyVector()))), "BoxOf")
		check(t, okBox(ofBox(vec.BoxAdd(a, b))), "BoxAdd", a, b)
		check(t, okBox(ofBox(vec.BoxSub(a, b))), "BoxSub", a, b)
		check(t, okBox(ofBox(vec.BoxUnit(a))), "BoxUnit", a)
		check(t, okBox(ofBox(vec.BoxTurn(axis, s.anySpan(), b))), "BoxTurn", axis, b)
		check(t, okSpan(ofSpan(vec.BoxDot(a, b))), "BoxDot", a, b)
		check(t, okSpan(ofSpan(vec.BoxLong(a))), "BoxLong", a)
		check(t, okSpan(ofSpan(vec.BoxNorm(a))), "BoxNorm", a)
		check(t, vec.BoxMeet(a, b) == vec.BoxMeet(b, a), "BoxMeet", a, b)
		check(t, !vec.BoxInside(a, b) || vec.BoxMeet(a, b), "BoxInside", a, b)
		check(t, !vec.BoxHas(a, s.anyVector()) || vec.BoxInside(a, a), "BoxHas", a)
	}
}
