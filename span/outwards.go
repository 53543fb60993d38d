package span

import (
	"orrery/api"
	"orrery/grain"
)

// least is the least magnitude above 0 that is fit.
const least = 0x1p-200

// about: the greatest number not above an exact result and the least not below it, told by the rounded result and the sign of what rounding left of it. They may be unfit, and -0.
func about(x, rest float64) api.Span {
	switch {
	case rest < 0:
		return api.Span{Lo: grain.Prev(x), Hi: x}
	case rest > 0:
		return api.Span{Lo: x, Hi: grain.Next(x)}
	}
	return api.Span{Lo: x, Hi: x}
}

// corners: below the least and above the greatest result of a call that only rises or only falls along each side of the field of all x in a and y in b.
func corners(a, b api.Span, call func(x, y float64) api.Span) (lo, hi float64) {
	p, q, r, s := call(a.Lo, b.Lo), call(a.Lo, b.Hi), call(a.Hi, b.Lo), call(a.Hi, b.Hi)
	return min(p.Lo, q.Lo, r.Lo, s.Lo), max(p.Hi, q.Hi, r.Hi, s.Hi)
}

// outwards: the span of these ends, brought away from each other where they are too small to be fit.
func outwards(lo, hi float64) (api.Span, api.Errno) {
	return Make(-fitAbove(-lo), fitAbove(hi))
}

// fitAbove: the least number not below x that isn't too small to be fit.
func fitAbove(x float64) float64 {
	switch {
	case 0 < x && x < least:
		return least
	case -least < x && x < 0:
		return 0
	}
	return x
}
