package orbit_test

import (
	"math"
	"math/big"
	"testing"

	"orrery/api"
	"orrery/grain"
	"orrery/orbit"
	"orrery/span"
	"orrery/turn"
	"orrery/vec"
)

// The chapter's words once more. A known is a span of which the call that made it told no error.
type known struct {
	t *testing.T
	api.Span
}

func (a known) of(s api.Span, err api.Errno) known {
	a.t.Helper()
	return known{a.t, sure(a.t, s, err)}
}

func (a known) point(x float64) known { return a.of(span.Of(x)) }
func (a known) add(b known) known     { return a.of(span.Add(a.Span, b.Span)) }
func (a known) sub(b known) known     { return a.of(span.Sub(a.Span, b.Span)) }
func (a known) mul(b known) known     { return a.of(span.Mul(a.Span, b.Span)) }
func (a known) square() known         { return a.of(span.Square(a.Span)) }
func (a known) root() known           { return a.of(span.Root(a.Span)) }
func (a known) hull(b known) known    { return a.of(span.Hull(a.Span, b.Span)) }

// wantMeans: the chapter's M.
func wantMeans(t *testing.T, o api.Orbit, days api.Span) known {
	over := known{t, days}
	a := over.point(o.Phase).add(over.point(o.Rate).mul(over))
	mid, err := span.Mid(a.Span)
	check(t, err == api.OK, a, err)
	return a.sub(a.point(math.Floor(plus(mid, 0.5))))
}

// wantSines: the chapter's S and C.
func wantSines(t *testing.T, ecc float64, m known) (s, c known) {
	if wide, _ := span.Width(m.Span); wide >= 1 {
		return known{t, to(-1, 1)}, known{t, to(-1, 1)}
	}
	some := false
	for _, j := range []float64{-1, 0, 1} {
		part, ok, err := span.Meet(m.add(m.point(j)).Span, to(-0.5, 0.5))
		check(t, err == api.OK, m, j, err)
		if !ok {
			continue
		}
		sine, cosine, err := turn.Spans(wantSpan(t, ecc, part))
		check(t, err == api.OK, m, j, err)
		if some {
			s, c = s.hull(known{t, sine}), c.hull(known{t, cosine})
		} else {
			s, c, some = known{t, sine}, known{t, cosine}, true
		}
	}
	check(t, some, "no part", m.Span)
	return s, c
}

func wantBox(t *testing.T, o api.Orbit, days api.Span) toldBox {
	t.Helper()
	s, c := wantSines(t, o.Ecc, wantMeans(t, o, days))
	axis, ecc, one := s.point(o.Axis), s.point(o.Ecc), s.point(1)
	x := axis.mul(c.sub(ecc))
	y := axis.mul(one.sub(ecc.square()).root()).mul(s)
	b, err := vec.BoxTurn(2, point(o.Peri), api.Box{X: x.Span, Y: y.Span})
	check(t, err == api.OK, o, days, err)
	b, err = vec.BoxTurn(0, point(o.Tilt), b)
	check(t, err == api.OK, o, days, err)
	return ofBox(vec.BoxTurn(2, point(o.Node), b))
}

// days: a span of days: one time, two that are near each other or less than a turn apart, or any.
func (c *chance) days(o api.Orbit) api.Span {
	a, b := c.time(), c.time()
	switch c.below(5) {
	case 0:
		return point(a)
	case 1:
		b = a + c.number(-40, 2)
	case 2:
		a, b = c.part(), c.part()
	case 3:
		if o.Rate != 0 {
			b = a + c.part()/o.Rate
		}
	}
	if b = min(max(b, -latest), latest); !grain.Fit(b) {
		b = 0
	}
	return to(min(a, b), max(a, b))
}

// A trip is an orbit and a span of days.
type trip struct {
	o    api.Orbit
	days api.Span
}

func trips(seed chance, n int) []trip {
	var l []trip
	good, _ := orbitsThatMayBe()
	for _, o := range good {
		l = append(l, trip{o, seed.days(o)}, trip{o, point(seed.time())})
	}
	for range n {
		o := seed.orbit()
		l = append(l, trip{o, seed.days(o)})
	}
	for range n { // of spans of means across each quarter, and of any other
		o := seed.orbit()
		o.Phase, o.Rate = seed.mean()+float64(seed.below(3)-1), 1
		a := float64(seed.below(9)-4)/8 + seed.either(math.Ldexp(seed.part(), -seed.below(60)))
		l = append(l, trip{o, to(a, a+math.Ldexp(seed.part(), -seed.below(50)))})
	}
	return l
}

// P11.1.

func TestBoxesByTheChaptersWords(t *testing.T) {
	narrow := 0
	for _, p := range trips(21, 2500) {
		b, want := ofBox(orbit.Box(p.o, p.days)), wantBox(t, p.o, p.days)
		check(t, b.is(want.b, want.err) && b.err == api.OK, "Box", p, b, want)
		if wide, _ := span.Width(wantMeans(t, p.o, p.days).Span); wide < 1 {
			narrow++
		}
	}
	check(t, narrow > 3000, narrow)
}

// nearBox: do the ends differ by no more than so much?
func nearBox(a, b api.Box, bound float64) bool {
	near := func(x, y api.Span) bool { return math.Abs(x.Lo-y.Lo) <= bound && math.Abs(x.Hi-y.Hi) <= bound }
	return near(a.X, b.X) && near(a.Y, b.Y) && near(a.Z, b.Z)
}

func TestBoxesWorkedOut(t *testing.T) {
	o := api.Orbit{Axis: 10, Ecc: 0.6, Rate: 1} // 4 ahead, 16 behind, half a width of 8
	side := 0.25 - 0.6/(2*math.Pi)              // when the body is at (-6, 8)
	with := func(phase, peri, tilt, node float64) api.Orbit {
		p := o
		p.Phase, p.Peri, p.Tilt, p.Node = phase, peri, tilt, node
		return p
	}
	round := api.Box{X: to(-16, 4), Y: to(-8, 8)}
	for _, c := range []struct {
		o    api.Orbit
		days api.Span
		want api.Box
	}{
		{o, to(0, 1), round},
		{o, to(-latest, latest), round},
		{with(0.3, 0, 0, 0), to(7, 7.9999), round}, // less than a turn, but past both ends and both sides
		{o, point(0), api.Box{X: point(4), Y: point(0)}},
		{o, to(0, side), api.Box{X: to(-6, 4), Y: to(0, 8)}},
		{o, to(-side, side), api.Box{X: to(-6, 4), Y: to(-8, 8)}},
		{o, to(side, 0.5), api.Box{X: to(-16, -6), Y: to(0, 8)}},
		{o, to(side, 1-side), api.Box{X: to(-16, -6), Y: to(-8, 8)}}, // across 1/2: in two parts
		{o, to(side-1, -side), api.Box{X: to(-16, -6), Y: to(-8, 8)}},
		{o, to(0.5, 1), api.Box{X: to(-16, 4), Y: to(-8, 0)}},
		{o, to(1, 1+side), api.Box{X: to(-6, 4), Y: to(0, 8)}},
		{o, to(-3, side-3), api.Box{X: to(-6, 4), Y: to(0, 8)}},
		{with(-0.5, 0, 0, 0), to(0.5, 0.5+side), api.Box{X: to(-6, 4), Y: to(0, 8)}},
		{with(0, 0.25, 0, 0), to(0, side), api.Box{X: to(-8, 0), Y: to(-6, 4)}},
		{with(0, 0, 0.25, 0), to(0, side), api.Box{X: to(-6, 4), Z: to(0, 8)}},
		{with(0, 0, 0, 0.25), to(0, side), api.Box{X: to(-8, 0), Y: to(-6, 4)}},
		{with(0, 0.25, 0.25, 0), to(0, side), api.Box{X: to(-8, 0), Z: to(-6, 4)}},
		{with(0, 0.25, 0.25, 0.25), to(0, side), api.Box{Y: to(-8, 0), Z: to(-6, 4)}},
		{with(0, 0, 0.25, 0.25), to(0, side), api.Box{Y: to(-6, 4), Z: to(0, 8)}},
		{api.Orbit{Axis: 8, Phase: 0.25, Rate: 0.5}, to(0, 1), api.Box{X: to(-8, 0), Y: to(-8, 8)}},
		{api.Orbit{Axis: 8, Phase: 0.25}, to(-9, 9), api.Box{X: point(0), Y: point(8)}},
	} {
		b := ofBox(orbit.Box(c.o, c.days))
		check(t, b.err == api.OK && nearBox(b.b, c.want, 0x1p-40), c.o, c.days, b, "not", c.want)
	}
}

// A middle next below 1/2 that is rounded up to a whole number when 1/2 is added.
func TestBoxesNextToHalfATurn(t *testing.T) {
	for _, x := range []float64{0.5, -0.5, grain.Prev(0.5), -grain.Prev(0.5), grain.Next(0.5), -grain.Next(0.5)} {
		o := api.Orbit{Axis: 10, Ecc: 0.6, Phase: x}
		b, want := ofBox(orbit.Box(o, to(-1, 1))), wantBox(t, o, to(-1, 1))
		check(t, b.is(want.b, want.err) && b.err == api.OK, o, b, want)
		check(t, nearBox(b.b, api.Box{X: point(-16), Y: point(0)}, 0x1p-40), o, b)
		v, _ := orbit.At(o, 0)
		check(t, vec.BoxHas(b.b, at(-16, 0, 0)) && nearVec(v, at(-16, 0, 0), 0x1p-40), o, b, v)
	}
}

// moments: days of a span: its ends, some between, and those when the mean place is an eighth of a turn.
func (c *chance) moments(o api.Orbit, s api.Span) []float64 {
	l := []float64{s.Lo, s.Hi}
	for range 2 {
		l = append(l, s.Lo+float64(c.part()*(s.Hi-s.Lo)))
	}
	if o.Rate != 0 {
		first := math.Ceil(8 * (o.Phase + float64(o.Rate*s.Lo)))
		for i := range 3 {
			l = append(l, ((first+float64(i))/8-o.Phase)/o.Rate)
		}
	}
	var in []float64
	for _, d := range l {
		if span.Has(s, d) && grain.Fit(d) {
			in = append(in, d)
		}
	}
	return in
}

// P4: the boxes hold the true places.

type threeNumbers [3]*big.Float

func (w truth) at(o api.Orbit, d float64) threeNumbers {
	m := left(sum(wide(o.Phase), product(wide(o.Rate), wide(d))))
	s, c := w.sines(w.place(o.Ecc, m))
	b := wide(0).Sqrt(less(wide(1), product(wide(o.Ecc), wide(o.Ecc))))
	v := threeNumbers{product(wide(o.Axis), less(c, wide(o.Ecc))), product(product(wide(o.Axis), b), s), wide(0)}
	v = w.turned(v, 2, o.Peri)
	v = w.turned(v, 0, o.Tilt)
	return w.turned(v, 2, o.Node)
}

func (w truth) turned(v threeNumbers, axis int, x float64) threeNumbers {
	s, c := w.sines(wide(x))
	p, q := v[(axis+1)%3], v[(axis+2)%3]
	v[(axis+1)%3] = less(product(c, p), product(s, q))
	v[(axis+2)%3] = sum(product(s, p), product(c, q))
	return v
}

func TestBoxesHoldTheTruePlaces(t *testing.T) {
	w := newTruth(t)
	c := chance(22)
	for _, p := range trips(23, 100) {
		b, err := orbit.Box(p.o, p.days)
		for _, d := range c.moments(p.o, p.days) {
			v := w.at(p.o, d)
			bound := 0x1p-300 * p.o.Axis
			ok := holds(b.X, v[0], bound) && holds(b.Y, v[1], bound) && holds(b.Z, v[2], bound)
			check(t, err == api.OK && ok, "Box", p, b, "at", d, v)
		}
	}
}

// P11.6.

func (a toldBox) holds(v api.Vec, bound float64) bool {
	has := func(s api.Span, x float64) bool { return s.Lo-bound <= x && x <= s.Hi+bound }
	return a.err == api.OK && has(a.b.X, v.X) && has(a.b.Y, v.Y) && has(a.b.Z, v.Z)
}

func TestBothHold(t *testing.T) {
	c := chance(24)
	tried := 0
	for _, p := range trips(25, 1500) {
		over := ofBox(orbit.Box(p.o, p.days))
		for _, d := range c.moments(p.o, p.days) {
			tried++
			v, err := orbit.At(p.o, d)
			then := ofBox(orbit.Box(p.o, point(d)))
			check(t, err == api.OK && then.holds(v, 0x1p-12*p.o.Axis), "At", p.o, d, v, "not in", then)
			check(t, over.err == api.OK && vec.BoxMeet(over.b, then.b), "Box", p, over, "at", d, then)
		}
	}
	check(t, tried > 8000, tried)
}
