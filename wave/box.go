package wave

import (
	"orrery/api"
	"orrery/frame"
	"orrery/span"
	"orrery/turn"
)

// Box: what holds the true sums of the waves at all days of t.
func Box(l []api.Wave, t api.Span) (api.Box, api.Errno) {
	if err := ready(l, frame.Times(t)); err != api.OK {
		return api.Box{}, err
	}
	var sums [lastAxis + 1]api.Span
	for _, w := range l {
		sums[w.Axis] = add(sums[w.Axis], heights(w, t))
	}
	return api.Box{X: sums[0], Y: sums[1], Z: sums[2]}, api.OK
}

// heights: what holds all that w adds over t.
func heights(w api.Wave, t api.Span) api.Span {
	_, c, _ := turn.Spans(add(point(w.Phase), mul(point(w.Rate), t)))
	x := mul(point(w.Amp), c)
	ages := sure(span.Div(t, point(ageDays)))
	switch w.Power {
	case 1:
		return mul(x, ages)
	case 2: // the square, which is never below 0, as the product of two ages may be
		return mul(x, sure(span.Square(ages)))
	}
	return x
}

func point(x float64) api.Span   { return sure(span.Of(x)) }
func add(a, b api.Span) api.Span { return sure(span.Add(a, b)) }
func mul(a, b api.Span) api.Span { return sure(span.Mul(a, b)) }
