package turn

import (
	"orrery/api"
	"orrery/grain"
	"orrery/span"
)

// The series of the sine and of the cosine: where they begin, and of how many terms each of them is, which stand by twos.
const (
	sineFrom   = 17
	cosineFrom = 16
	terms      = 8
)

// factors: the factor of each power, 1 / n! with its sign.
func factors() [sineFrom + 1]float64 {
	return [sineFrom + 1]float64{
		2: -1.0 / 2, 3: -1.0 / 6,
		4: 1.0 / 24, 5: 1.0 / 120,
		6: -1.0 / 720, 7: -1.0 / 5040,
		8: 1.0 / 40320, 9: 1.0 / 362880,
		10: -1.0 / 3628800, 11: -1.0 / 39916800,
		12: 1.0 / 479001600, 13: 1.0 / 6227020800,
		14: -1.0 / 87178291200, 15: -1.0 / 1307674368000,
		16: 1.0 / 20922789888000, 17: 1.0 / 355687428096000,
	}
}

// near: the near sine and cosine of r turns, r from -1/8 to 1/8. (Here and in series each product is converted, lest it be fused with a sum in which it stands.)
func near(r float64) (float64, float64) {
	y := float64(r * Tau)
	z := float64(y * y)
	s := float64(z * series(sineFrom, z))
	return y + float64(y*s), 1 + float64(z*series(cosineFrom, z))
}

// series: a sum by Horner's rule in z, from the factor of the power h down by twos to that of the power 3 or 2.
func series(h int, z float64) float64 {
	a := factors()
	p := a[h]
	for i := range terms - 1 {
		p = a[h-2-2*i] + float64(z*p)
	}
	return p
}

// sure: spans that hold the sine and the cosine of r turns, r from -1/8 to 1/8: what the terms behind the series come to is less than the last span that is added.
func sure(r float64) (api.Span, api.Span) {
	y := mul(api.Span{Lo: r, Hi: r}, api.Span{Lo: Tau, Hi: grain.Next(Tau)})
	z, _ := span.Square(y)
	s := add(y, mul(y, mul(z, sureSeries(sineFrom, z))))
	c := add(api.Span{Lo: 1, Hi: 1}, mul(z, sureSeries(cosineFrom, z)))
	return add(s, api.Span{Lo: -0x1p-63, Hi: 0x1p-63}), add(c, api.Span{Lo: -0x1p-58, Hi: 0x1p-58})
}

// sureSeries: series, as a span.
func sureSeries(h int, z api.Span) api.Span {
	a := factors()
	p := api.Span{}
	for i := range terms {
		p = add(about(a[h-2*i]), mul(z, p))
	}
	return p
}

// about: from the number below a to the number above it.
func about(a float64) api.Span { return api.Span{Lo: grain.Prev(a), Hi: grain.Next(a)} }

// The calls of span for what stands here: all ends are fit and of a magnitude below 8, so that none is refused.

func add(a, b api.Span) api.Span {
	s, _ := span.Add(a, b)
	return s
}

func mul(a, b api.Span) api.Span {
	s, _ := span.Mul(a, b)
	return s
}

func neg(a api.Span) api.Span {
	s, _ := span.Neg(a)
	return s
}

func hull(a, b api.Span) api.Span {
	s, _ := span.Hull(a, b)
	return s
}
