package wave_test

import (
	"math"
	"math/big"
	"testing"

	"orrery/api"
	"orrery/grain"
	"orrery/span"
	"orrery/turn"
	"orrery/wave"
)

// The chapter's words once more. A known is a span of which the call that made it told no error.
type known struct {
	t *testing.T
	api.Span
}

func (a known) of(s api.Span, err api.Errno) known {
	a.t.Helper()
	check(a.t, err == api.OK, s, err)
	return known{a.t, s}
}

func (a known) point(x float64) known { return a.of(span.Of(x)) }
func (a known) add(b known) known     { return a.of(span.Add(a.Span, b.Span)) }
func (a known) mul(b known) known     { return a.of(span.Mul(a.Span, b.Span)) }
func (a known) div(b known) known     { return a.of(span.Div(a.Span, b.Span)) }
func (a known) square() known         { return a.of(span.Square(a.Span)) }

func (a known) cosine() known {
	a.t.Helper()
	_, c, err := turn.Spans(a.Span)
	return a.of(c, err)
}

func wantBox(t *testing.T, l []api.Wave, days api.Span) api.Box {
	t.Helper()
	over := known{t, days}
	nought := over.point(0)
	sums := [3]known{nought, nought, nought}
	for _, w := range l {
		x := over.point(w.Amp).mul(over.point(w.Phase).add(over.point(w.Rate).mul(over)).cosine())
		u := over.div(over.point(65536))
		switch w.Power {
		case 1:
			x = x.mul(u)
		case 2:
			x = x.mul(u.square())
		}
		sums[w.Axis] = sums[w.Axis].add(x)
	}
	return api.Box{X: sums[0].Span, Y: sums[1].Span, Z: sums[2].Span}
}

// days: a span of days: one time, two that are near each other, or any.
func (c *chance) days() api.Span {
	a, b := c.time(), c.time()
	switch c.below(5) {
	case 0:
		return point(a)
	case 1:
		b = a + c.number(-40, 2)
	case 2:
		a, b = c.part(), c.part()
	case 3:
		b = c.either(a)
	}
	if b = min(max(b, -latest), latest); !grain.Fit(b) {
		b = 0
	}
	return to(min(a, b), max(a, b))
}

// P12.1.

func TestBoxesByTheChaptersWords(t *testing.T) {
	c := chance(21)
	for range 4000 {
		l, days := c.waves(), c.days()
		b, want := ofBox(wave.Box(l, days)), wantBox(t, l, days)
		check(t, b.is(want, api.OK), "Box", l, days, b, want)
	}
}

// nearBox: do the ends differ by no more than so much?
func nearBox(a, b api.Box, bound float64) bool {
	near := func(x, y api.Span) bool { return math.Abs(x.Lo-y.Lo) <= bound && math.Abs(x.Hi-y.Hi) <= bound }
	return near(a.X, b.X) && near(a.Y, b.Y) && near(a.Z, b.Z)
}

func TestBoxesWorkedOut(t *testing.T) {
	type l = []api.Wave
	for _, c := range []struct {
		l    l
		days api.Span
		want api.Box
	}{
		{nil, to(-1, 1), api.Box{}},
		{l{{Amp: 2}}, to(-1, 1), api.Box{X: point(2)}},
		{l{{Amp: -2, Axis: 1}}, to(-1, 1), api.Box{Y: point(-2)}},
		{l{{Amp: 2, Axis: 2, Phase: 0.5}}, point(9), api.Box{Z: point(-2)}},
		{l{{Amp: 2, Rate: 1}}, to(0, 1), api.Box{X: to(-2, 2)}},
		{l{{Amp: 2, Rate: 1}}, to(0, 0.25), api.Box{X: to(0, 2)}},
		{l{{Amp: -2, Rate: -1}}, to(0.25, 0.5), api.Box{X: to(0, 2)}},
		{l{{Amp: 2, Rate: 0.5, Phase: 0.25}}, to(0, 0.5), api.Box{X: to(-2, 0)}},
		{l{{Amp: 2, Rate: 0.5, Phase: 0.25}}, to(0.25, 0.75), api.Box{X: to(-2, -2*math.Sqrt(0.5))}},
		{l{{Amp: 2, Rate: 1}}, to(5.875, 6.125), api.Box{X: to(2*math.Sqrt(0.5), 2)}},
		{l{{Amp: 2, Rate: turns}}, to(-latest, latest), api.Box{X: to(-2, 2)}},
		{l{{Power: 1, Amp: 2}}, to(age, 3*age), api.Box{X: to(2, 6)}}, // ages
		{l{{Power: 1, Amp: 2}}, to(-age, 3*age), api.Box{X: to(-2, 6)}},
		{l{{Power: 1, Amp: -2}}, to(-age, 3*age), api.Box{X: to(-6, 2)}},
		{l{{Power: 2, Amp: 2}}, to(age, 3*age), api.Box{X: to(2, 18)}},
		{l{{Power: 2, Amp: 2}}, to(-age, 3*age), api.Box{X: to(0, 18)}}, // never below 0
		{l{{Power: 2, Amp: -2}}, to(-3*age, age), api.Box{X: to(-18, 0)}},
		{l{{Power: 2, Axis: 2, Amp: -2, Rate: 1}}, to(0, 3*age), api.Box{Z: to(-18, 18)}},
		{l{{Amp: 2}, {Axis: 1, Amp: 3}, {Axis: 2, Amp: 4}, {Amp: 5}}, point(1), api.Box{X: point(7), Y: point(3), Z: point(4)}}, // sums
		{l{{Amp: 2, Rate: 1}, {Amp: 1, Rate: 1, Phase: 0.5}}, to(0, 0.5), api.Box{X: to(-3, 3)}},                                // each for itself
		{l{{Power: 1, Amp: 2}, {Power: 2, Amp: 2}, {Amp: 1}}, to(age, 2*age), api.Box{X: to(5, 13)}},
	} {
		b := ofBox(wave.Box(c.l, c.days))
		check(t, b.err == api.OK && nearBox(b.b, c.want, 0x1p-40), c.l, c.days, b, "not", c.want)
	}
}

// The greatest and the least that there are.
func TestBoxesAtTheEnds(t *testing.T) {
	all := make([]api.Wave, api.MaxWaves)
	for i := range all {
		all[i] = api.Wave{Axis: 1, Power: 2, Amp: loud, Rate: turns}
	}
	b := ofBox(wave.Box(all, to(-latest, latest)))
	check(t, b.is(api.Box{Y: to(-0x1p61, 0x1p61)}, api.OK), b)
	small := []api.Wave{{Amp: least, Power: 1}} // an age of 2^-216
	b = ofBox(wave.Box(small, point(least)))
	check(t, b.is(api.Box{X: to(0, least)}, api.OK), b)
	b = ofBox(wave.Box(small, point(-least)))
	check(t, b.is(api.Box{X: to(-least, 0)}, api.OK), b)
}

// P4: the boxes hold the true sums, by numbers of many more digits.

const digits = 400

func wide(x float64) *big.Float { return new(big.Float).SetPrec(digits).SetFloat64(x) }

func sum(x, y *big.Float) *big.Float { return wide(0).Add(x, y) }

func less(x, y *big.Float) *big.Float { return wide(0).Sub(x, y) }

func product(x, y *big.Float) *big.Float { return wide(0).Mul(x, y) }

func quotient(x, y *big.Float) *big.Float { return wide(0).Quo(x, y) }

// allRound: 2 pi, by Machin's sum: pi is 16 arctan 1/5 less 4 arctan 1/239.
func allRound() *big.Float {
	arctan := func(n float64) *big.Float {
		power := quotient(wide(1), wide(n))
		all := wide(0)
		for k := range 200 {
			term := quotient(power, wide(float64(2*k+1)))
			if k%2 == 1 {
				term.Neg(term)
			}
			all = sum(all, term)
			power.Quo(power, wide(n*n))
		}
		return all
	}
	return less(product(wide(32), arctan(5)), product(wide(8), arctan(239)))
}

// cosine: of turns, by its series at what is left of whole turns.
func cosine(round, turned *big.Float) *big.Float {
	whole, _ := turned.Int(nil)
	y := product(round, less(turned, wide(0).SetInt(whole)))
	square := product(y, y)
	all, term := wide(0), wide(1)
	for k := range 60 {
		all = sum(all, term)
		term = quotient(product(term, square), wide(float64((2*k+1)*(2*k+2))))
		term.Neg(term)
	}
	return all
}

type truth [3]*big.Float

// trueSums: of the waves at d days.
func trueSums(round *big.Float, l []api.Wave, d float64) truth {
	sums := truth{wide(0), wide(0), wide(0)}
	for _, w := range l {
		x := product(wide(w.Amp), cosine(round, sum(wide(w.Phase), product(wide(w.Rate), wide(d)))))
		for range w.Power {
			x = product(x, quotient(wide(d), wide(65536)))
		}
		sums[w.Axis] = sum(sums[w.Axis], x)
	}
	return sums
}

// holds: does each true number lie in its span (but for what even many digits leave)?
func holds(b api.Box, v truth, bound float64) bool {
	has := func(s api.Span, x *big.Float) bool {
		return less(x, wide(s.Lo)).Cmp(wide(-bound)) >= 0 && less(wide(s.Hi), x).Cmp(wide(-bound)) >= 0
	}
	return has(b.X, v[0]) && has(b.Y, v[1]) && has(b.Z, v[2])
}

// moments: days of a span: its ends, some between, and those when a wave is highest, lowest or 0.
func (c *chance) moments(l []api.Wave, s api.Span) []float64 {
	all := []float64{s.Lo, s.Hi, 0}
	for range 2 {
		all = append(all, s.Lo+float64(c.part()*(s.Hi-s.Lo)))
	}
	if len(l) > 0 && l[0].Rate != 0 {
		first := math.Ceil(4 * (l[0].Phase + float64(l[0].Rate*s.Lo)))
		for i := range 3 {
			all = append(all, ((first+float64(i))/4-l[0].Phase)/l[0].Rate)
		}
	}
	var in []float64
	for _, d := range all {
		if span.Has(s, d) && grain.Fit(d) {
			in = append(in, d)
		}
	}
	return in
}

func TestBoxesHoldTheTrueSums(t *testing.T) {
	round := allRound()
	x, _ := round.Float64()
	check(t, x == 2*math.Pi, "2 pi", x)
	c := chance(22)
	tried := 0
	for range 250 {
		l, days := c.waves(), c.days()
		l = l[:len(l)/3] // few: the fewer, the tighter is the box
		b := ofBox(wave.Box(l, days))
		reach, err := wave.Reach(l)
		for _, d := range c.moments(l, days) {
			tried++
			v := trueSums(round, l, d)
			ok := b.err == api.OK && err == api.OK && holds(b.b, v, 0x1p-300*reach)
			check(t, ok, "Box", l, days, b, "at", d, v)
		}
	}
	check(t, tried > 900, tried)
}

// P12.4.

func within(b api.Box, v api.Vec, bound float64) bool {
	has := func(s api.Span, x float64) bool { return s.Lo-bound <= x && x <= s.Hi+bound }
	return has(b.X, v.X) && has(b.Y, v.Y) && has(b.Z, v.Z)
}

// meet: does each span of a box meet that of the other?
func meet(a, b api.Box) bool {
	meets := func(x, y api.Span) bool {
		_, ok, err := span.Meet(x, y)
		return ok && err == api.OK
	}
	return meets(a.X, b.X) && meets(a.Y, b.Y) && meets(a.Z, b.Z)
}

func TestBothHold(t *testing.T) {
	c := chance(24)
	tried := 0
	for range 1500 {
		l, days := c.waves(), c.days()
		over := ofBox(wave.Box(l, days))
		reach, _ := wave.Reach(l)
		for _, d := range c.moments(l, days) {
			tried++
			v := ofVec(wave.At(l, d))
			then := ofBox(wave.Box(l, point(d)))
			fine := v.err == api.OK && then.err == api.OK && over.err == api.OK
			check(t, fine && within(then.b, v.v, 0x1p-12*reach+0x1p-180), "At", l, d, v, "not in", then)
			check(t, fine && meet(over.b, then.b), "Box", l, days, over, "at", d, then)
		}
	}
	check(t, tried > 5000, tried)
}
