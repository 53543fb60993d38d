package orbit_test

import (
	"math"
	"testing"

	"orrery/api"
	"orrery/frame"
	"orrery/grain"
	"orrery/orbit"
	"orrery/span"
	"orrery/vec"
)

// P11.3.

func TestEllipse(t *testing.T) {
	c := chance(31)
	for _, p := range trips(32, 4000) {
		o, d := p.o, c.moments(p.o, p.days)[0]
		v, err := orbit.At(o, d)
		n, also := vec.Norm(v)
		off := 0x1p-40 * o.Axis
		check(t, err == api.OK && also == api.OK && o.Axis*(1-o.Ecc)-off <= n && n <= o.Axis*(1+o.Ecc)+off, "At", o, d, v, n)
	}
}

func long(v api.Vec) float64 { return math.Hypot(math.Hypot(v.X, v.Y), v.Z) }

// The ellipse is one indeed: the ways to its two foci come to twice Axis.
func TestEllipseByItsFoci(t *testing.T) {
	c := chance(33)
	for range 4000 {
		o := c.orbit()
		v, err := orbit.At(o, c.time())
		still := o
		still.Phase, still.Rate = 0, 0
		near, also := orbit.At(still, 0) // the end of the ellipse next to its centre, the other focus being 2 Axis Ecc the other way
		check(t, err == api.OK && also == api.OK, o, err, also)
		k := 2 * o.Ecc / (1 - o.Ecc)
		n := long(v)
		far := long(at(v.X+k*near.X, v.Y+k*near.Y, v.Z+k*near.Z))
		check(t, math.Abs(n+far-2*o.Axis) <= 0x1p-40*o.Axis, "At", o, v, n, far)
	}
}

// P11.4.

func TestRound(t *testing.T) {
	c := chance(34)
	tried := 0
	for range 6000 {
		o := c.orbit()
		o.Rate = float64(c.below(2049)-1024) / 16
		d := float64(c.below(1<<20)-1<<19) * 16
		o.Phase = float64(c.below(1<<21)-1<<20) / 1024
		start, _ := orbit.Mean(o, 0)
		if math.Abs(start) == 0.5 {
			continue
		}
		tried++
		one, also := ofVec(orbit.At(o, 0)), ofVec(orbit.At(o, d))
		check(t, one.err == api.OK && one.is(also.v, also.err), "At", o, d, one, also)
	}
	check(t, tried > 5000, tried)
}

// A mean place is from -1/2 to 1/2, and whole turns are all that it leaves out.
func TestMeansLeaveWholeTurns(t *testing.T) {
	c := chance(35)
	for range 20000 {
		o, d := c.orbit(), c.time()
		m, err := orbit.Mean(o, d)
		x := o.Phase + float64(o.Rate*d)
		check(t, err == api.OK && math.Abs(m) <= 0.5 && grain.Fit(m), "Mean", o, d, m)
		if n := x - m; grain.Fit(x) {
			check(t, n == math.Floor(n), "Mean", o, d, x, m)
		}
	}
}

// Noughts are +0, whatever their signs are in what is handed in.
func TestNoughts(t *testing.T) {
	n := negZero
	for _, axis := range []float64{1, 8} {
		o := api.Orbit{Axis: axis, Ecc: n, Tilt: n, Node: n, Peri: n, Phase: n, Rate: n}
		for _, d := range []float64{0, n, -1, 1} {
			check(t, ofNumber(orbit.Mean(o, d)).is(0, api.OK), "Mean", o, d)
			check(t, ofVec(orbit.At(o, d)).is(at(axis, 0, 0), api.OK), "At", o, d)
		}
		plain := api.Orbit{Axis: axis}
		b := ofBox(orbit.Box(plain, point(0)))
		check(t, b.is(orbit.Box(o, point(n))) && same(b.b.Z.Lo, -b.b.Z.Hi), "Box", o, b)
	}
	check(t, ofNumber(orbit.Solve(n, n)).is(0, api.OK), "Solve")
	check(t, ofSpan(orbit.SolveSpan(n, to(n, n))).is(to(-0x1p-50, 0x1p-50), api.OK), "SolveSpan")
}

// P1: each call answers, whatever the bits; nothing beside an error; and only what may be an answer.

func (c *chance) any(greatest float64) float64 {
	if c.below(40) == 0 {
		return math.Float64frombits(c.bits())
	}
	return c.some(greatest)
}

func (c *chance) anyOrbit() api.Orbit {
	o := c.orbit()
	for _, x := range append(others(&o), &o.Axis, &o.Ecc) {
		if c.below(30) == 0 {
			*x = math.Float64frombits(c.bits())
		}
	}
	return o
}

func TestAnyBits(t *testing.T) {
	c := chance(36)
	counted := map[api.Errno]int{}
	for range 20000 {
		o, d, days, ecc, m, s := c.anyOrbit(), c.any(latest), to(c.any(latest), c.any(latest)), c.any(1), c.any(1), to(c.any(0.5), c.any(0.5))
		err := orbit.Check(o)
		mean := ofNumber(orbit.Mean(o, d))
		if err == api.OK && !frame.Time(d) {
			err = api.ErrDate
		}
		counted[err]++
		check(t, mean.err == err && grain.Fit(mean.x) && (err == api.OK || mean.refused(err)), "Mean", o, d, mean)
		v := ofVec(orbit.At(o, d))
		check(t, v.err == err && vec.Fit(v.v) && (err == api.OK || v.refused(err)), "At", o, d, v)
		if err = orbit.Check(o); err == api.OK && !frame.Times(days) {
			err = api.ErrDate
		}
		b := ofBox(orbit.Box(o, days))
		check(t, b.err == err && vec.FitBox(b.b) && (err == api.OK || b.refused(err)), "Box", o, days, b)
		x := ofNumber(orbit.Solve(ecc, m))
		check(t, x.err == api.OK && grain.Fit(x.x) || x.refused(api.ErrOrbit) || x.refused(api.ErrFit), "Solve", ecc, m, x)
		e := ofSpan(orbit.SolveSpan(ecc, s))
		check(t, e.err == api.OK && span.Check(e.s) == api.OK || e.refused(api.ErrOrbit) || e.refused(api.ErrFit), "SolveSpan", ecc, s, e)
		counted[x.err]++
		counted[e.err]++
	}
	check(t, len(counted) == 4, counted)
}
