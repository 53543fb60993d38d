package orbit

import (
	"orrery/api"
	"orrery/grain"
	"orrery/span"
	"orrery/turn"
)

// greatestMean is the greatest magnitude of a mean place.
const greatestMean = 0.5

// How often Solve halves; and of an edge the first step away from what Solve answers, and how many steps are tried.
const (
	halvings  = 64
	firstStep = 0x1p-50
	steps     = 40
)

// Solve: the place of a mean place m, by halving: the place lies no farther from m than the greatest k sin is.
func Solve(ecc, m float64) (float64, api.Errno) {
	if !fitEcc(ecc) {
		return 0, api.ErrOrbit
	}
	if !fitMean(m) {
		return 0, api.ErrFit
	}
	k := ecc / turn.Tau
	lo, hi := m-k, m+k
	for range halvings {
		e := (lo + hi) / 2
		s, _ := turn.Sin(brought(e))
		if (e-float64(k*s))-m > 0 {
			hi = e
		} else {
			lo = e
		}
	}
	return brought((lo + hi) / 2), api.OK
}

// SolveSpan: what holds the places of all mean places of m.
func SolveSpan(ecc float64, m api.Span) (api.Span, api.Errno) {
	if !fitEcc(ecc) {
		return api.Span{}, api.ErrOrbit
	}
	if span.Check(m) != api.OK || !fitMean(m.Lo) || !fitMean(m.Hi) {
		return api.Span{}, api.ErrFit
	}
	return api.Span{Lo: edge(ecc, m.Lo, -1), Hi: edge(ecc, m.Hi, 1)}, api.OK
}

// fitMean: may m be a mean place?
func fitMean(m float64) bool { return within(m, -greatestMean, greatestMean) }

// edge: a number that surely lies on the side w (-1: below, 1: above) of the true place of m, as near as doubled steps find one.
func edge(ecc, m float64, w int) float64 {
	side := float64(w)
	e, _ := Solve(ecc, m)
	step := side * firstStep
	for range steps {
		x := brought(e + step)
		if span.Sign(ahead(ecc, x, m)) == w {
			return x
		}
		step *= 2
	}
	return m + side // the true place is nearer to m than that
}

// ahead: what holds how far the mean place of x truly lies ahead of m. (The mean place rises with x: so the sign tells on which side of the place of m x lies.)
func ahead(ecc, x, m float64) api.Span {
	k := div(point(ecc), api.Span{Lo: turn.Tau, Hi: grain.Next(turn.Tau)})
	s, _, _ := turn.Point(x)
	return sub(sub(point(x), mul(k, s)), point(m))
}
