package poly

import (
	"orrery/api"
	"orrery/span"
)

// HornerSpan: Horner over a span: it holds the true values at all numbers in x.
func HornerSpan(c []float64, x api.Span) (api.Span, api.Errno) {
	if err := checkOver(c, x, powersTo); err != api.OK {
		return api.Span{}, err
	}
	p := api.Span{}
	for i := range len(c) {
		p = add(point(c[len(c)-1-i]), mul(x, p))
	}
	return p, api.OK
}

// ChebSpan: Cheb over a span: it holds the true values at all numbers in x.
func ChebSpan(c []float64, x api.Span) (api.Span, api.Errno) {
	if err := checkOver(c, x, chebyshTo); err != api.OK || len(c) == 0 {
		return api.Span{}, err
	}
	w := add(x, x)
	b, d := api.Span{}, api.Span{}
	for i := range len(c) - 1 {
		b, d = add(sub(mul(w, b), d), point(c[len(c)-1-i])), b
	}
	return add(sub(mul(x, b), d), point(c[0])), api.OK
}

// The calls of span for what stands here: all ends are fit, and by the greatest magnitudes that are taken they stay below 2^191, so that none is refused.

func point(x float64) api.Span {
	s, _ := span.Of(x)
	return s
}

func add(a, b api.Span) api.Span {
	s, _ := span.Add(a, b)
	return s
}

func sub(a, b api.Span) api.Span {
	s, _ := span.Sub(a, b)
	return s
}

func mul(a, b api.Span) api.Span {
	s, _ := span.Mul(a, b)
	return s
}
