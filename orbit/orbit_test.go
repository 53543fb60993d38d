package orbit_test

import (
	"math"
	"math/big"
	"testing"

	"orrery/api"
	"orrery/grain"
	"orrery/orbit"
	"orrery/turn"
	"orrery/vec"
)

const (
	least   = 0x1p-200 // the least magnitude above 0 that is fit
	nearest = 0x1p-20  // the least Axis
	far     = 0x1p40   // the greatest Axis
	thin    = 0.875    // the greatest Ecc
	turns   = 0x1p10   // the greatest magnitude of the other numbers of an orbit
	latest  = 0x1p24   // of a time
)

var negZero = math.Copysign(0, -1)

func at(x, y, z float64) api.Vec { return api.Vec{X: x, Y: y, Z: z} }

func to(lo, hi float64) api.Span { return api.Span{Lo: lo, Hi: hi} }

func point(x float64) api.Span { return to(x, x) }

// same: the same number, noughts only with the same sign.
func same(a, b float64) bool { return math.Float64bits(a) == math.Float64bits(b) }

func sameVec(a, b api.Vec) bool { return same(a.X, b.X) && same(a.Y, b.Y) && same(a.Z, b.Z) }

func sameSpan(a, b api.Span) bool { return same(a.Lo, b.Lo) && same(a.Hi, b.Hi) }

func sameBox(a, b api.Box) bool {
	return sameSpan(a.X, b.X) && sameSpan(a.Y, b.Y) && sameSpan(a.Z, b.Z)
}

// A toldNumber, a toldVec, a toldSpan and a toldBox are what a call answered.
type (
	toldNumber struct {
		x   float64
		err api.Errno
	}
	toldVec struct {
		v   api.Vec
		err api.Errno
	}
	toldSpan struct {
		s   api.Span
		err api.Errno
	}
	toldBox struct {
		b   api.Box
		err api.Errno
	}
)

func ofNumber(x float64, err api.Errno) toldNumber    { return toldNumber{x, err} }
func ofVec(v api.Vec, err api.Errno) toldVec          { return toldVec{v, err} }
func ofSpan(s api.Span, err api.Errno) toldSpan       { return toldSpan{s, err} }
func ofBox(b api.Box, err api.Errno) toldBox          { return toldBox{b, err} }
func (a toldNumber) is(x float64, err api.Errno) bool { return same(a.x, x) && a.err == err }
func (a toldVec) is(v api.Vec, err api.Errno) bool    { return sameVec(a.v, v) && a.err == err }
func (a toldSpan) is(s api.Span, err api.Errno) bool  { return sameSpan(a.s, s) && a.err == err }
func (a toldBox) is(b api.Box, err api.Errno) bool    { return sameBox(a.b, b) && a.err == err }
func (a toldNumber) refused(err api.Errno) bool       { return a.is(0, err) }
func (a toldVec) refused(err api.Errno) bool          { return a.is(api.Vec{}, err) }
func (a toldSpan) refused(err api.Errno) bool         { return a.is(api.Span{}, err) }
func (a toldBox) refused(err api.Errno) bool          { return a.is(api.Box{}, err) }
func (a toldVec) near(v api.Vec, bound float64) bool {
	return nearVec(a.v, v, bound) && a.err == api.OK
}
func nearVec(v, w api.Vec, bound float64) bool {
	return math.Abs(v.X-w.X) <= bound && math.Abs(v.Y-w.Y) <= bound && math.Abs(v.Z-w.Z) <= bound
}

func check(t *testing.T, ok bool, tell ...any) {
	t.Helper()
	if !ok {
		t.Error(tell...)
	}
}

// A chance answers numbers that depend on nothing but how many were asked for ahead of them.
type chance uint64

func (c *chance) bits() uint64 {
	*c = *c*6364136223846793005 + 1442695040888963407
	return uint64(*c ^ *c>>29)
}

func (c *chance) below(n int) int { return int(c.bits() >> 11 % uint64(n)) }

// part: from 0 on, below 1.
func (c *chance) part() float64 { return float64(c.bits()>>11) / (1 << 53) }

func (c *chance) either(x float64) float64 {
	if c.below(2) == 0 {
		return -x
	}
	return x
}

// number: of a magnitude from 2^low on, below 2^high.
func (c *chance) number(low, high int) float64 {
	return c.either(math.Ldexp(1+c.part(), low+c.below(high-low)))
}

// some: a number that is at most greatest: 0, an end, of a few quarters, or another.
func (c *chance) some(greatest float64) float64 {
	switch c.below(8) {
	case 0:
		return c.either(0)
	case 1:
		return c.either(greatest)
	case 2:
		return c.either(least)
	case 3, 4:
		return float64(c.below(41)-20) / 4
	case 5:
		return c.number(-200, int(math.Log2(greatest)))
	}
	return c.number(-10, int(math.Log2(greatest)))
}

func (c *chance) time() float64 { return c.some(latest) }

func (c *chance) axis() float64 {
	switch c.below(6) {
	case 0:
		return nearest
	case 1:
		return far
	case 2:
		return 1
	}
	return math.Abs(c.number(-20, 40))
}

func (c *chance) ecc() float64 {
	switch c.below(10) {
	case 0:
		return c.either(0)
	case 1:
		return thin
	case 2:
		return math.Abs(c.number(-200, -100))
	case 3:
		return math.Abs(c.number(-100, -1))
	case 4:
		return float64(c.below(8)) / 8
	}
	return c.part() * thin
}

func (c *chance) orbit() api.Orbit {
	return api.Orbit{
		Axis: c.axis(), Ecc: c.ecc(), Tilt: c.some(turns), Node: c.some(turns), Peri: c.some(turns),
		Phase: c.some(turns), Rate: c.some(turns),
	}
}

// mean: a mean place: 0, an end, an eighth, near an eighth, or another.
func (c *chance) mean() float64 {
	eighth := float64(c.below(9)-4) / 8
	switch c.below(6) {
	case 0:
		return c.either(0)
	case 1:
		return eighth
	case 2:
		m := eighth + c.number(-60, -20)
		return min(max(m, -0.5), 0.5)
	case 3:
		return c.number(-200, -1)
	}
	return c.either(c.part() / 2)
}

// The chapter's examples.

func round() api.Orbit { return api.Orbit{Axis: 10, Ecc: 0.5, Rate: 1} }

func TestExamples(t *testing.T) {
	o := round()
	x := ofNumber(orbit.Mean(o, 0.25))
	check(t, x.is(0.25, api.OK), "Mean", x)
	x = ofNumber(orbit.Solve(0.5, 0.25))
	check(t, x.is(0.32164894703653957, api.OK), "Solve", x)
	s := ofSpan(orbit.SolveSpan(0.5, point(0.25)))
	check(t, s.is(to(0.3216489470365387, 0.32164894703654046), api.OK), "SolveSpan", s)
	v := ofVec(orbit.At(o, 0.25))
	check(t, v.is(at(-9.351308590367095, 7.797408874975592, 0), api.OK), "At", v)
	o.Ecc = 0.9
	check(t, orbit.Check(o) == api.ErrOrbit, "Ecc 0.9")
	o = round()
	o.Axis = 0
	check(t, orbit.Check(o) == api.ErrOrbit, "Axis 0")
	check(t, ofNumber(orbit.Solve(0, 0.6)).refused(api.ErrFit), "Solve(0, 0.6)")
}

// P11.1: what is taken.

// unfit: numbers that are never taken.
func unfit() []float64 {
	return []float64{
		math.NaN(), math.Float64frombits(0xfff0000000000123), math.Inf(1), math.Inf(-1), math.SmallestNonzeroFloat64,
		-math.SmallestNonzeroFloat64, grain.Prev(least), -grain.Prev(least), 0x1p-1000, grain.Next(0x1p200),
		-grain.Next(0x1p200), math.MaxFloat64, -math.MaxFloat64,
	}
}

// beyond: unfit numbers, and those next to and far beyond an end.
func beyond(lo, hi float64) []float64 {
	return append(unfit(), grain.Prev(lo), grain.Next(hi), 2*hi, -2*hi, 0x1p200, -0x1p200)
}

// upTo: numbers that are taken up to a greatest magnitude.
func upTo(greatest float64) []float64 {
	return []float64{0, negZero, least, -least, 0.1, -0.1, greatest, -greatest, grain.Prev(greatest), -grain.Prev(greatest)}
}

func axes() []float64 { return []float64{nearest, grain.Next(nearest), 1, 0.1, grain.Prev(far), far} }

func badAxes() []float64 { return append(beyond(nearest, far), 0, negZero, least, -1, -nearest, -far) }

func eccs() []float64 {
	return []float64{0, negZero, least, grain.Next(least), 0x1p-100, 0.1, 0.5, grain.Prev(thin), thin}
}

func badEccs() []float64 {
	return append(beyond(-math.SmallestNonzeroFloat64, thin), -least, -0.1, -thin, 0.9, 1, 2)
}

// others: the fields of an orbit that are turns, or turns a day.
func others(o *api.Orbit) []*float64 {
	return []*float64{&o.Tilt, &o.Node, &o.Peri, &o.Phase, &o.Rate}
}

func orbitsThatMayBe() (good, bad []api.Orbit) {
	with := func(l *[]api.Orbit, numbers []float64, field func(o *api.Orbit) *float64) {
		for _, x := range numbers {
			o := round()
			*field(&o) = x
			*l = append(*l, o)
		}
	}
	axis := func(o *api.Orbit) *float64 { return &o.Axis }
	ecc := func(o *api.Orbit) *float64 { return &o.Ecc }
	with(&good, axes(), axis)
	with(&bad, badAxes(), axis)
	with(&good, eccs(), ecc)
	with(&bad, badEccs(), ecc)
	for i := range 5 {
		other := func(o *api.Orbit) *float64 { return others(o)[i] }
		with(&good, upTo(turns), other)
		with(&bad, beyond(-turns, turns), other)
	}
	return good, bad
}

func TestOrbitsThatMayBe(t *testing.T) {
	good, bad := orbitsThatMayBe()
	for _, o := range good {
		check(t, orbit.Check(o) == api.OK, o)
		m, v, b := ofNumber(orbit.Mean(o, 1)), ofVec(orbit.At(o, 1)), ofBox(orbit.Box(o, to(0, 1)))
		check(t, m.err == api.OK && v.err == api.OK && b.err == api.OK, o, m, v, b)
	}
	for _, o := range bad {
		check(t, orbit.Check(o) == api.ErrOrbit, o)
		for _, d := range []float64{0, math.NaN(), 2 * latest} { // the orbit is looked at first
			check(t, ofNumber(orbit.Mean(o, d)).refused(api.ErrOrbit), "Mean", o, d)
			check(t, ofVec(orbit.At(o, d)).refused(api.ErrOrbit), "At", o, d)
			check(t, ofBox(orbit.Box(o, point(d))).refused(api.ErrOrbit), "Box", o, d)
			check(t, ofBox(orbit.Box(o, to(1, -1))).refused(api.ErrOrbit), "Box", o)
		}
	}
	check(t, orbit.Check(api.Orbit{}) == api.ErrOrbit, "an orbit of noughts")
}

func TestTimes(t *testing.T) {
	o := api.Orbit{Axis: 3, Ecc: 0.1, Tilt: 0.2, Node: 0.3, Peri: 0.4, Phase: 0.5, Rate: 0.6}
	good, bad := upTo(latest), beyond(-latest, latest)
	for _, d := range good {
		m, v := ofNumber(orbit.Mean(o, d)), ofVec(orbit.At(o, d))
		check(t, m.err == api.OK && v.err == api.OK, d, m, v)
		for _, e := range good {
			b := ofBox(orbit.Box(o, to(d, e)))
			check(t, d <= e && b.err == api.OK || d > e && b.refused(api.ErrDate), "Box", d, e, b)
		}
		for _, e := range bad {
			check(t, ofBox(orbit.Box(o, to(d, e))).refused(api.ErrDate), "Box", d, e)
			check(t, ofBox(orbit.Box(o, to(e, d))).refused(api.ErrDate), "Box", e, d)
		}
	}
	for _, d := range bad {
		check(t, ofNumber(orbit.Mean(o, d)).refused(api.ErrDate), "Mean", d)
		check(t, ofVec(orbit.At(o, d)).refused(api.ErrDate), "At", d)
		check(t, ofBox(orbit.Box(o, point(d))).refused(api.ErrDate), "Box", d)
	}
}

// The chapter's words once more, each operation by big's numbers of 53 bits, which are rounded one by one.

func by(call func(z, x, y *big.Float) *big.Float, x, y float64) float64 {
	z, _ := call(new(big.Float).SetPrec(53), big.NewFloat(x), big.NewFloat(y)).Float64()
	return z
}

func plus(x, y float64) float64  { return by((*big.Float).Add, x, y) }
func minus(x, y float64) float64 { return by((*big.Float).Sub, x, y) }
func times(x, y float64) float64 { return by((*big.Float).Mul, x, y) }
func over(x, y float64) float64  { return by((*big.Float).Quo, x, y) }

func rootOf(x float64) float64 {
	z, _ := new(big.Float).SetPrec(53).Sqrt(big.NewFloat(x)).Float64()
	return z
}

func fitted(x float64) float64 {
	if -least < x && x < least {
		return 0
	}
	return x
}

// wantLeft: by the whole numbers on either side.
func wantLeft(x float64) float64 {
	below := new(big.Float).SetPrec(2000).SetFloat64(math.Floor(x))
	rest := new(big.Float).SetPrec(2000).Sub(big.NewFloat(x), below)
	half := rest.Cmp(big.NewFloat(0.5))
	if half > 0 || half == 0 && math.Mod(math.Floor(x), 2) != 0 {
		rest.Sub(rest, big.NewFloat(1))
	}
	left, accuracy := rest.Float64()
	if accuracy != big.Exact {
		panic("what is left isn't exact")
	}
	return left
}

func wantMean(o api.Orbit, d float64) float64 {
	return fitted(wantLeft(plus(o.Phase, times(o.Rate, d)))) + 0
}

func wantAt(t *testing.T, o api.Orbit, d float64) toldVec {
	s, c, err := turn.Both(wantSolve(o.Ecc, wantMean(o, d)))
	check(t, err == api.OK, o, d, err)
	b := rootOf(minus(1, times(o.Ecc, o.Ecc)))
	v := at(fitted(times(o.Axis, minus(c, o.Ecc))), fitted(times(times(o.Axis, b), s)), 0)
	peri, _ := vec.Turned(2, o.Peri)
	tilt, _ := vec.Turned(0, o.Tilt)
	node, _ := vec.Turned(2, o.Node)
	v, _ = vec.Apply(peri, v)
	v, _ = vec.Apply(tilt, v)
	return ofVec(vec.Apply(node, v))
}

func TestPlacesByTheChaptersWords(t *testing.T) {
	c := chance(1)
	for range 1500 {
		o := c.orbit()
		for range 4 {
			d := c.time()
			m := ofNumber(orbit.Mean(o, d))
			check(t, m.is(wantMean(o, d), api.OK), "Mean", o, d, m, wantMean(o, d))
			v, want := ofVec(orbit.At(o, d)), wantAt(t, o, d)
			check(t, v.is(want.v, want.err) && v.err == api.OK, "At", o, d, v, want)
		}
	}
}

func TestMeansByTheChaptersWords(t *testing.T) {
	c := chance(2)
	o := round()
	for range 50000 {
		o.Phase, o.Rate = c.some(turns), c.some(turns)
		d := c.time()
		m := ofNumber(orbit.Mean(o, d))
		check(t, m.is(wantMean(o, d), api.OK), "Mean", o, d, m, wantMean(o, d))
	}
}

func TestMeansWorkedOut(t *testing.T) {
	for _, c := range []struct{ phase, rate, d, want float64 }{
		{0, 0, 0, 0},
		{negZero, negZero, 5, 0},
		{0.25, 0, 7, 0.25},
		{0.5, 0, 0, 0.5}, // of two equally near whole numbers the even one
		{1.5, 0, 0, -0.5},
		{2.5, 0, 0, 0.5},
		{-0.5, 0, 0, -0.5},
		{-1.5, 0, 0, 0.5},
		{grain.Next(0.5), 0, 0, -0.4999999999999999},
		{grain.Prev(0.5), 0, 0, 0.49999999999999994},
		{1, 0, 0, 0},
		{-1, 0, 0, 0},
		{-0.75, 0, 0, 0.25},
		{0.25, 0.25, 2, -0.25},
		{0.25, -0.25, 2, -0.25},
		{turns, turns, latest, 0},
		{0.25, 1, 16777215.5, -0.25},
		{0.1, 0, 0, 0.1},
		{1, 0x1p-60, 1, 0}, // rounded away
		{least, 0, 0, least},
		{0, least, 0.5, 0}, // too small to be fit
		{0, -least, 0.5, 0},
		{0, 0x1p-190, 0x1p-10, least},
		{-least, grain.Next(0x1p-190), 0x1p-10, 0},
		{-1, grain.Next(1), 1, 0x1p-52},
	} {
		m := ofNumber(orbit.Mean(api.Orbit{Axis: 1, Phase: c.phase, Rate: c.rate}, c.d))
		check(t, m.is(c.want, api.OK), "Mean", c, m)
	}
}

// The product is rounded ahead of the sum: of numbers of which a fused sum would be another.
func TestNothingIsFused(t *testing.T) {
	x := 1 + 0x1p-30 // its square is 1 + 2^-29 + 2^-60: rounded, without the last
	m := ofNumber(orbit.Mean(api.Orbit{Axis: 1, Phase: -1 - 0x1p-29, Rate: x}, x))
	check(t, m.is(0, api.OK), "Mean", m)
}

func TestPlacesWorkedOut(t *testing.T) {
	// Of Ecc 3/5 and Axis 10: 4 ahead, 16 behind, half a width of 8. At mean place 0 and 1/2 the place is so too.
	flat := api.Orbit{Axis: 10, Ecc: 0.6}
	with := func(phase, peri, tilt, node float64) api.Orbit {
		o := flat
		o.Phase, o.Peri, o.Tilt, o.Node = phase, peri, tilt, node
		return o
	}
	side := 0.25 - 0.6/(2*math.Pi) // the mean place of the place 1/4, at (-6, 8)
	for _, c := range []struct {
		o    api.Orbit
		want api.Vec
	}{
		{with(0, 0, 0, 0), at(4, 0, 0)},
		{with(0.5, 0, 0, 0), at(-16, 0, 0)},
		{with(-0.5, 0, 0, 0), at(-16, 0, 0)},
		{with(side, 0, 0, 0), at(-6, 8, 0)},
		{with(-side, 0, 0, 0), at(-6, -8, 0)},
		{with(side, 0.25, 0, 0), at(-8, -6, 0)},
		{with(side, 0, 0.25, 0), at(-6, 0, 8)},
		{with(side, 0, 0, 0.25), at(-8, -6, 0)},
		{with(side, 0.25, 0.25, 0), at(-8, 0, -6)},
		{with(side, 0.25, 0.25, 0.25), at(0, -8, -6)},
		{with(side, 0, 0.25, 0.25), at(0, -6, 8)},
		{with(side, -0.25, 0.5, 0), at(8, -6, 0)},
		{with(side, 0, 0.5, -0.25), at(-8, 6, 0)},
		{api.Orbit{Axis: 8, Phase: 0.25}, at(0, 8, 0)},
		{api.Orbit{Axis: 8, Phase: 0.375, Rate: 0.125}, at(-8, 0, 0)},
	} {
		v := ofVec(orbit.At(c.o, 1))
		check(t, v.near(c.want, 0x1p-45), "At", c.o, v, "not", c.want)
	}
}

// What comes out too small to be fit is 0, ahead of being turned.
func TestSmallPlaces(t *testing.T) {
	for _, c := range []struct {
		o    api.Orbit
		want api.Vec
	}{
		{api.Orbit{Axis: nearest, Ecc: least, Phase: 0.25, Peri: 0.25}, at(-nearest, 0, 0)}, // x is -2^-220
		{api.Orbit{Axis: 1, Ecc: least, Phase: 0.25}, at(-least, 1, 0)},
		{api.Orbit{Axis: 0.5, Ecc: least, Phase: 0.25}, at(0, 0.5, 0)},
		{api.Orbit{Axis: nearest, Phase: 0x1p-190}, at(nearest, 0, 0)},
		{api.Orbit{Axis: 1, Phase: least}, at(1, least*turn.Tau, 0)},
		{api.Orbit{Axis: 0.125, Phase: least}, at(0.125, 0, 0)},
		{api.Orbit{Axis: 0.125, Phase: -least}, at(0.125, 0, 0)},
	} {
		v := ofVec(orbit.At(c.o, 5))
		check(t, v.is(c.want, api.OK), "At", c.o, v, "not", c.want)
	}
}
