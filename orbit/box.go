package orbit

import (
	"math"

	"orrery/api"
	"orrery/frame"
	"orrery/span"
	"orrery/turn"
	"orrery/vec"
)

// Box: what holds all places over the days of t.
func Box(o api.Orbit, t api.Span) (api.Box, api.Errno) {
	if err := ready(o, frame.Times(t)); err != api.OK {
		return api.Box{}, err
	}
	s, c := sines(o.Ecc, means(o, t))
	axis, ecc := point(o.Axis), point(o.Ecc)
	b := root(sub(point(1), square(ecc)))
	return turnedBox(o, api.Box{X: mul(axis, sub(c, ecc)), Y: mul(mul(axis, b), s)})
}

// means: what holds all mean places over t, but for whole turns: its middle lies from -1/2 to 1/2.
func means(o api.Orbit, t api.Span) api.Span {
	a := add(point(o.Phase), mul(point(o.Rate), t))
	mid, _ := span.Mid(a)
	return sub(a, point(math.Floor(mid+0.5)))
}

// sines: what holds the sines and the cosines of the places of all mean places of m.
func sines(ecc float64, m api.Span) (s, c api.Span) {
	if wide, _ := span.Width(m); wide >= 1 {
		circle := api.Span{Lo: -1, Hi: 1}
		return circle, circle
	}
	for i, part := range parts(m) {
		p, _ := SolveSpan(ecc, part)
		sine, cosine, _ := turn.Spans(p)
		if i == 0 {
			s, c = sine, cosine
		}
		s, c = hull(s, sine), hull(c, cosine)
	}
	return s, c
}

// parts: the mean places of m, less than a turn wide about one from -1/2 to 1/2, each brought into this turn. (At least one part is: the middle.)
func parts(m api.Span) []api.Span {
	var l []api.Span
	for i := range 3 {
		moved := add(m, point(float64(i-1)))
		if part, ok, _ := span.Meet(moved, api.Span{Lo: -greatestMean, Hi: greatestMean}); ok {
			l = append(l, part)
		}
	}
	return l
}

// turnedBox: b of the flat ellipse where it is.
func turnedBox(o api.Orbit, b api.Box) (api.Box, api.Errno) {
	for _, t := range turnings(o) {
		var err api.Errno
		if b, err = vec.BoxTurn(t.axis, point(t.by), b); err != api.OK {
			return api.Box{}, err
		}
	}
	return b, api.OK
}

// The calls of span for what stands here: all ends are fit and stay below 2^60, and what is divided by or has a root lies above 0, so that none is refused.

func point(x float64) api.Span {
	s, _ := span.Of(x)
	return s
}

func add(a, b api.Span) api.Span {
	s, _ := span.Add(a, b)
	return s
}

func sub(a, b api.Span) api.Span {
	s, _ := span.Sub(a, b)
	return s
}

func mul(a, b api.Span) api.Span {
	s, _ := span.Mul(a, b)
	return s
}

func div(a, b api.Span) api.Span {
	s, _ := span.Div(a, b)
	return s
}

func square(a api.Span) api.Span {
	s, _ := span.Square(a)
	return s
}

func root(a api.Span) api.Span {
	s, _ := span.Root(a)
	return s
}

func hull(a, b api.Span) api.Span {
	s, _ := span.Hull(a, b)
	return s
}
