package vec

import (
	"orrery/api"
	"orrery/span"
	"orrery/turn"
)

// FitBox: may b be a box?
func FitBox(b api.Box) bool { return fitSpan(b.X) && fitSpan(b.Y) && fitSpan(b.Z) }

// BoxOf: the box that holds v alone.
func BoxOf(v api.Vec) (api.Box, api.Errno) {
	if !Fit(v) {
		return api.Box{}, api.ErrFit
	}
	return api.Box{X: point(v.X), Y: point(v.Y), Z: point(v.Z)}, api.OK
}

// BoxAdd: what holds the sums.
func BoxAdd(a, b api.Box) (api.Box, api.Errno) { return byNumbers(a, b, add) }

// BoxSub: what holds the differences.
func BoxSub(a, b api.Box) (api.Box, api.Errno) { return byNumbers(a, b, sub) }

// BoxDot: what holds the products of vectors.
func BoxDot(a, b api.Box) (api.Span, api.Errno) {
	if !fitBoxes(a, b) {
		return api.Span{}, api.ErrFit
	}
	return add(add(mul(a.X, b.X), mul(a.Y, b.Y)), mul(a.Z, b.Z)), api.OK
}

// BoxLong: what holds the squares of the lengths.
func BoxLong(a api.Box) (api.Span, api.Errno) {
	if !FitBox(a) {
		return api.Span{}, api.ErrFit
	}
	return add(add(square(a.X), square(a.Y)), square(a.Z)), api.OK
}

// BoxNorm: what holds the lengths.
func BoxNorm(a api.Box) (api.Span, api.Errno) {
	long, err := BoxLong(a)
	if err != api.OK {
		return api.Span{}, err
	}
	return span.Root(long)
}

// BoxUnit: what holds the vectors of length 1 that go the ways of those in a.
func BoxUnit(a api.Box) (api.Box, api.Errno) {
	n, err := BoxNorm(a)
	if err != api.OK {
		return api.Box{}, err
	}
	if n.Lo <= 0 {
		return api.Box{}, api.ErrZero
	}
	return api.Box{X: share(a.X, n), Y: share(a.Y, n), Z: share(a.Z, n)}, api.OK
}

// BoxTurn: what holds the vectors of b turned about an axis by the turns in x.
func BoxTurn(axis int, x api.Span, b api.Box) (api.Box, api.Errno) {
	if !isAxis(axis) {
		return api.Box{}, api.ErrArg
	}
	s, c, err := turn.Spans(x)
	if err != api.OK {
		return api.Box{}, err
	}
	if !FitBox(b) {
		return api.Box{}, api.ErrFit
	}
	l := [3]api.Span{b.X, b.Y, b.Z}
	i, j := (axis+1)%3, (axis+2)%3
	p, q := l[i], l[j]
	l[i] = sub(mul(c, p), mul(s, q))
	l[j] = add(mul(s, p), mul(c, q))
	l[axis] = add(l[axis], api.Span{}) // as it is, but for the sign of noughts
	return api.Box{X: l[0], Y: l[1], Z: l[2]}, api.OK
}

// BoxHas: does v lie in b?
func BoxHas(b api.Box, v api.Vec) bool {
	return span.Has(b.X, v.X) && span.Has(b.Y, v.Y) && span.Has(b.Z, v.Z)
}

// BoxInside: does all of a lie in b?
func BoxInside(a, b api.Box) bool {
	return span.Inside(a.X, b.X) && span.Inside(a.Y, b.Y) && span.Inside(a.Z, b.Z)
}

// BoxMeet: does anything lie in both?
func BoxMeet(a, b api.Box) bool {
	return meets(a.X, b.X) && meets(a.Y, b.Y) && meets(a.Z, b.Z)
}

// fitSpan: may s be a span of a box?
func fitSpan(s api.Span) bool { return span.Check(s) == api.OK && within(s.Lo) && within(s.Hi) }

// fitBoxes: may both be boxes?
func fitBoxes(a, b api.Box) bool { return FitBox(a) && FitBox(b) }

// byNumbers: the box of what a call answers of the spans of a and b, number by number.
func byNumbers(a, b api.Box, call func(a, b api.Span) api.Span) (api.Box, api.Errno) {
	if !fitBoxes(a, b) {
		return api.Box{}, api.ErrFit
	}
	return api.Box{X: call(a.X, b.X), Y: call(a.Y, b.Y), Z: call(a.Z, b.Z)}, api.OK
}

// share: what holds the numbers of vectors of length 1, told by those of vectors whose lengths lie in n. (The quotient holds some of them, and all lie in the whole: so the two meet.)
func share(a, n api.Span) api.Span {
	whole := api.Span{Lo: -1, Hi: 1}
	q, err := span.Div(a, n)
	if err != api.OK { // of a length above 0 it isn't: that is 2^-100 at least, being a root of a fit number
		return whole
	}
	s, _, _ := span.Meet(q, whole)
	return s
}

// meets: does anything lie in both?
func meets(a, b api.Span) bool {
	_, ok, _ := span.Meet(a, b)
	return ok
}

// The calls of span for what stands here: all ends are fit, and by the greatest magnitude that is taken they stay below 2^122, so that none is refused.

func point(x float64) api.Span {
	s, _ := span.Of(x)
	return s
}

func add(a, b api.Span) api.Span {
	s, _ := span.Add(a, b)
	return s
}

func sub(a, b api.Span) api.Span {
	s, _ := span.Sub(a, b)
	return s
}

func mul(a, b api.Span) api.Span {
	s, _ := span.Mul(a, b)
	return s
}

func square(a api.Span) api.Span {
	s, _ := span.Square(a)
	return s
}
