package tot

import "cmp"

// splitter is 2^27 + 1: by it a number is cut into two parts of at most 26 bits, so that products of parts are exact.
const splitter = 134217729

// An expansion is the exact sum of its parts. None of them is 0, and all that stand ahead of a part lie together below its lowest bit: so the last one is the greatest, and its sign is that of the whole.
//
// What is made of fit numbers and of their products has bits from 2^-504 to 2^408 alone, so that nothing overflows or gets lost at the lower end.
type expansion []float64

// add grows the expansion by x: the sum goes through the parts from the least on, and leaves at each what rounding left.
func (e *expansion) add(x float64) {
	kept := (*e)[:0]
	for _, part := range *e {
		var rest float64
		x, rest = twoSum(x, part)
		if rest != 0 {
			kept = append(kept, rest)
		}
	}
	if x != 0 {
		kept = append(kept, x)
	}
	*e = kept
}

// addProduct grows the expansion by x y, in four products that are exact.
func (e *expansion) addProduct(x, y float64) {
	xh, xl := split(x)
	yh, yl := split(y)
	e.add(float64(xl * yl))
	e.add(float64(xl * yh))
	e.add(float64(xh * yl))
	e.add(float64(xh * yh))
}

// sign: of the whole.
func (e expansion) sign() int {
	if len(e) == 0 {
		return 0
	}
	return cmp.Compare(e[len(e)-1], 0)
}

// nearest: the number nearest to the whole, ties to even.
func (e expansion) nearest() float64 {
	n := len(e)
	if n == 0 {
		return 0
	}
	n--
	s, rest := e[n], 0.0
	for n > 0 && rest == 0 {
		n--
		s, rest = twoSum(s, e[n])
	}
	// What is left of the parts is too little to be seen, but where the rest is a tie: there it tells the side. If it draws the way of the rest, the tie was no tie, and the number on the other side of it is the nearest.
	if n > 0 && (rest < 0) == (e[n-1] < 0) {
		step := rest + rest
		if other := s + step; other-s == step {
			return other
		}
	}
	return s
}

// twoSum: a + b, rounded, and exactly what rounding left of it.
func twoSum(a, b float64) (float64, float64) {
	s := a + b
	c := s - a // what of b came into s
	return s, (a - (s - c)) + (b - c)
}

// split: x as the sum of two parts. (The product is converted, lest it be fused with a difference behind it.)
func split(x float64) (high, low float64) {
	c := float64(splitter * x)
	high = c - (c - x)
	return high, x - high
}
