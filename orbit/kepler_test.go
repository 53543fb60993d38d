package orbit_test

import (
	"math"
	"math/big"
	"testing"

	"orrery/api"
	"orrery/grain"
	"orrery/orbit"
	"orrery/span"
	"orrery/turn"
)

// An equation is an eccentricity and a mean place.
type equation struct{ ecc, m float64 }

// equations: the edges of both with each other, and n others.
func equations(seed chance, n int) []equation {
	var l []equation
	means := append(upTo(0.5), 0.25, -0.25, 0.125, -0.375, grain.Next(0.25), grain.Prev(0.25), 0x1p-60, -0x1p-60)
	for _, ecc := range eccs() {
		for _, m := range means {
			l = append(l, equation{ecc, m})
		}
	}
	for range n {
		l = append(l, equation{seed.ecc(), seed.mean()})
	}
	return l
}

// wantSolve: the chapter's words, operation by operation.
func wantSolve(ecc, m float64) float64 {
	k := over(ecc, 6.283185307179586)
	lo, hi := minus(m, k), plus(m, k)
	for range 64 {
		e := over(plus(lo, hi), 2)
		s, err := turn.Sin(fitted(e))
		if err != api.OK {
			panic(err)
		}
		if minus(minus(e, times(k, s)), m) > 0 {
			hi = e
		} else {
			lo = e
		}
	}
	return fitted(over(plus(lo, hi), 2)) + 0
}

// P11.1.

func TestSolveByTheChaptersWords(t *testing.T) {
	for _, q := range equations(11, 6000) {
		e := ofNumber(orbit.Solve(q.ecc, q.m))
		check(t, e.is(wantSolve(q.ecc, q.m), api.OK), "Solve", q, e, wantSolve(q.ecc, q.m))
	}
}

// Of eccentricities so small that the halves come to be too small to be fit, at mean place 0.
func TestSmallEquations(t *testing.T) {
	c := chance(12)
	noughts := 0
	for k := range 200 {
		for range 5 {
			q := equation{math.Ldexp(1+c.part(), k-200), c.either(0)}
			e := ofNumber(orbit.Solve(q.ecc, q.m))
			check(t, e.is(wantSolve(q.ecc, q.m), api.OK), "Solve", q, e)
			if e.x == 0 {
				noughts++
			}
			if q.ecc < thin {
				s := ofSpan(orbit.SolveSpan(q.ecc, point(q.m)))
				check(t, s.is(wantSpan(t, q.ecc, point(q.m)), api.OK), "SolveSpan", q, s)
			}
		}
	}
	check(t, 0 < noughts && noughts < 900, noughts)
}

func TestSolveWorkedOut(t *testing.T) {
	for _, m := range append(upTo(0.5), 0.25, 0x1p-60) { // on a circle the place is the mean place
		for _, ecc := range []float64{0, negZero} {
			e := ofNumber(orbit.Solve(ecc, m))
			check(t, e.is(m+0, api.OK), "Solve", ecc, m, e)
		}
	}
	for _, ecc := range eccs() {
		k := ecc / (2 * math.Pi)
		for _, c := range []struct{ m, want float64 }{{0, 0}, {0.5, 0.5}, {-0.5, -0.5}, {0.25 - k, 0.25}, {k - 0.25, -0.25}} {
			e := ofNumber(orbit.Solve(ecc, c.m))
			check(t, e.err == api.OK && math.Abs(e.x-c.want) < 0x1p-50, "Solve", ecc, c, e)
		}
	}
}

func TestEquationsThatMayNotBe(t *testing.T) {
	bad := beyond(-0.5, 0.5)
	for _, ecc := range badEccs() { // the eccentricity is looked at first
		for _, m := range append(bad, upTo(0.5)...) {
			check(t, ofNumber(orbit.Solve(ecc, m)).refused(api.ErrOrbit), "Solve", ecc, m)
			check(t, ofSpan(orbit.SolveSpan(ecc, point(m))).refused(api.ErrOrbit), "SolveSpan", ecc, m)
			check(t, ofSpan(orbit.SolveSpan(ecc, to(m, -m))).refused(api.ErrOrbit), "SolveSpan", ecc, m)
		}
	}
	for _, ecc := range eccs() {
		for _, m := range bad {
			check(t, ofNumber(orbit.Solve(ecc, m)).refused(api.ErrFit), "Solve", ecc, m)
			for _, s := range []api.Span{point(m), to(0, m), to(m, 0), to(-0.5, m), to(m, 0.5)} {
				check(t, ofSpan(orbit.SolveSpan(ecc, s)).refused(api.ErrFit), "SolveSpan", ecc, s)
			}
		}
		for _, m := range upTo(0.5) {
			for _, n := range upTo(0.5) {
				s := ofSpan(orbit.SolveSpan(ecc, to(m, n)))
				check(t, m <= n && s.err == api.OK || m > n && s.refused(api.ErrFit), "SolveSpan", ecc, m, n, s)
			}
		}
	}
}

// sure: the span that a call of span answered, which told no error.
func sure(t *testing.T, s api.Span, err api.Errno) api.Span {
	t.Helper()
	check(t, err == api.OK, s, err)
	return s
}

// wantEdge: the chapter's words, by span's calls.
func wantEdge(t *testing.T, ecc, m, w float64) float64 {
	t.Helper()
	kSpan, err := span.Div(point(ecc), to(turn.Tau, grain.Next(turn.Tau)))
	k := sure(t, kSpan, err)
	e := wantSolve(ecc, m)
	for i := range 40 {
		x := fitted(plus(e, math.Ldexp(w, i-50))) + 0
		sine, _, err := turn.Point(x)
		product, also := span.Mul(k, sure(t, sine, err))
		rest, again := span.Sub(point(x), sure(t, product, also))
		off, last := span.Sub(sure(t, rest, again), point(m))
		if span.Sign(sure(t, off, last)) == int(w) {
			return x
		}
	}
	t.Error("no edge", ecc, m, w)
	return plus(m, w)
}

func wantSpan(t *testing.T, ecc float64, m api.Span) api.Span {
	t.Helper()
	return to(wantEdge(t, ecc, m.Lo, -1), wantEdge(t, ecc, m.Hi, 1))
}

// spanOf: a span of mean places that has m in it.
func (c *chance) spanOf(m float64) api.Span {
	n := c.mean()
	switch c.below(4) {
	case 0:
		return point(m)
	case 1:
		n = min(max(m+c.number(-60, -4), -0.5), 0.5)
		if !grain.Fit(n) {
			n = 0
		}
	}
	return to(min(m, n), max(m, n))
}

func TestSolveSpanByTheChaptersWords(t *testing.T) {
	c := chance(13)
	for _, q := range equations(14, 3000) {
		m := c.spanOf(q.m)
		s := ofSpan(orbit.SolveSpan(q.ecc, m))
		check(t, s.is(wantSpan(t, q.ecc, m), api.OK), "SolveSpan", q.ecc, m, s, wantSpan(t, q.ecc, m))
	}
}

func TestSolveSpanWorkedOut(t *testing.T) {
	step := 0x1p-50
	for _, c := range []struct {
		ecc     float64
		m, want api.Span
	}{
		{0, point(0), to(-step, step)},
		{0, point(0.25), to(0.25-step, 0.25+step)},
		{0, to(-0.5, 0.5), to(-0.5-step, 0.5+step)},
		{0, to(negZero, step), to(-step, 2*step)},
		{0, point(step), to(0, 2*step)}, // an edge at 0
		{0, point(-step), to(-2*step, 0)},
		{least, to(-0.5, 0.125), to(-0.5-step, 0.125+step)},
	} {
		s := ofSpan(orbit.SolveSpan(c.ecc, c.m))
		check(t, s.is(c.want, api.OK), "SolveSpan", c, s)
	}
}

// P11.2.

func TestKepler(t *testing.T) {
	for _, q := range equations(15, 30000) {
		e, err := orbit.Solve(q.ecc, q.m)
		s, also := turn.Sin(e)
		off := (e - float64(q.ecc/turn.Tau*s)) - q.m
		check(t, err == api.OK && also == api.OK && math.Abs(off) <= 0x1p-48, "Solve", q, e, "off by", off)
	}
}

// P11.5.

func TestEdges(t *testing.T) {
	c := chance(16)
	for _, q := range equations(17, 6000) {
		e, err := orbit.Solve(q.ecc, q.m)
		m := c.spanOf(q.m)
		over, also := orbit.SolveSpan(q.ecc, m)
		check(t, err == api.OK && also == api.OK, q, m, err, also)
		check(t, over.Lo-0x1p-40 <= e && e <= over.Hi+0x1p-40, "Solve", q, e, "not in", m, over)
		for _, n := range []float64{q.m, m.Lo, m.Hi} {
			one, err := orbit.SolveSpan(q.ecc, point(n))
			_, meets, also := span.Meet(one, over)
			check(t, err == api.OK && also == api.OK && meets, "SolveSpan", q.ecc, n, one, "doesn't meet", m, over)
		}
	}
}

// P4 of it: what is answered holds the true places, by numbers of many more digits.

const digits = 400

func wide(x float64) *big.Float { return new(big.Float).SetPrec(digits).SetFloat64(x) }

func sum(x, y *big.Float) *big.Float { return wide(0).Add(x, y) }

func less(x, y *big.Float) *big.Float { return wide(0).Sub(x, y) }

func product(x, y *big.Float) *big.Float { return wide(0).Mul(x, y) }

func quotient(x, y *big.Float) *big.Float { return wide(0).Quo(x, y) }

// allRound: 2 pi, by Machin's sum: pi is 16 arctan 1/5 less 4 arctan 1/239.
func allRound() *big.Float {
	arctan := func(n float64) *big.Float {
		power := quotient(wide(1), wide(n))
		all := wide(0)
		for k := range 200 {
			term := quotient(power, wide(float64(2*k+1)))
			if k%2 == 1 {
				term.Neg(term)
			}
			all = sum(all, term)
			power.Quo(power, wide(n*n))
		}
		return all
	}
	return less(product(wide(32), arctan(5)), product(wide(8), arctan(239)))
}

// A truth works with 2 pi.
type truth struct{ round *big.Float }

func newTruth(t *testing.T) truth {
	round := allRound()
	x, _ := round.Float64()
	check(t, x == 2*math.Pi, "2 pi", x)
	return truth{round}
}

// sines: the sine and the cosine of turns, by their series at what is left of whole turns.
func (w truth) sines(turned *big.Float) (s, c *big.Float) {
	y := product(w.round, left(turned))
	s, c = wide(0), wide(0)
	term := wide(1)
	for k := range 100 {
		part := wide(0).Set(term)
		if k%4 > 1 {
			part.Neg(part)
		}
		if k%2 == 0 {
			c = sum(c, part)
		} else {
			s = sum(s, part)
		}
		term = quotient(product(term, y), wide(float64(k+1)))
	}
	return s, c
}

// left: of x behind whole turns, from -1/2 to 1/2.
func left(x *big.Float) *big.Float {
	whole, _ := x.Int(nil)
	rest := less(x, wide(0).SetInt(whole))
	if rest.Cmp(wide(0.5)) > 0 {
		return less(rest, wide(1))
	}
	if rest.Cmp(wide(-0.5)) < 0 {
		return sum(rest, wide(1))
	}
	return rest
}

// place: of a mean place, by halving with the library's sine, then by Newton's steps, each of which doubles the digits.
func (w truth) place(ecc float64, m *big.Float) *big.Float {
	near, _ := m.Float64()
	lo, hi := near-0.2, near+0.2
	for range 60 {
		e := (lo + hi) / 2
		if e-ecc/(2*math.Pi)*math.Sin(2*math.Pi*e) > near {
			hi = e
		} else {
			lo = e
		}
	}
	e := wide(lo)
	k := quotient(wide(ecc), w.round)
	for range 4 {
		s, c := w.sines(e)
		off := less(less(e, product(k, s)), m)
		e = less(e, quotient(off, less(wide(1), product(wide(ecc), c))))
	}
	return e
}

// holds: does x lie in s (but for what even many digits leave)?
func holds(s api.Span, x *big.Float, bound float64) bool {
	return less(x, wide(s.Lo)).Cmp(wide(-bound)) >= 0 && less(wide(s.Hi), x).Cmp(wide(-bound)) >= 0
}

func TestSpansHoldTheTruePlaces(t *testing.T) {
	w := newTruth(t)
	c := chance(18)
	for _, q := range equations(19, 600) {
		m := c.spanOf(q.m)
		s, err := orbit.SolveSpan(q.ecc, m)
		e := w.place(q.ecc, wide(q.m))
		check(t, err == api.OK && holds(s, e, 0x1p-300), "SolveSpan", q, m, s, e)
		solved, err := orbit.Solve(q.ecc, q.m)
		check(t, err == api.OK && holds(point(solved), e, 0x1p-48), "Solve", q, solved, e)
	}
}
