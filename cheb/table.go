package cheb

import (
	"math"

	"orrery/api"
	"orrery/grain"
	"orrery/poly"
	"orrery/span"
)

// A step of a table is from the one to the other, in days.
const (
	leastStep    = 0x1p-10
	greatestStep = 0x1p24
)

// Check: what is wrong with a table.
func Check(t api.Table) api.Errno {
	if len(t.Rows) > api.MaxRows {
		return api.ErrLong
	}
	if !isTime(t.From) || !(leastStep <= t.Step && t.Step <= greatestStep) {
		return api.ErrTable
	}
	for _, row := range t.Rows {
		for _, c := range row {
			if !may(c) {
				return api.ErrTable
			}
		}
	}
	return api.OK
}

// Piece: the row that tells d days, and where in it.
func Piece(t api.Table, d float64) (int, float64, api.Errno) {
	if err := ready(t, isTime(d)); err != api.OK {
		return 0, 0, err
	}
	i, x := place(t, d)
	return i, x, api.OK
}

// At: what a table tells of d days.
func At(t api.Table, d float64) (api.Vec, api.Errno) {
	i, x, err := Piece(t, d)
	if err != api.OK {
		return api.Vec{}, err
	}
	row := t.Rows[i]
	return api.Vec{X: value(row[0], x), Y: value(row[1], x), Z: value(row[2], x)}, api.OK
}

// Box: what holds all that At answers over the days of s.
func Box(t api.Table, s api.Span) (api.Box, api.Errno) {
	if err := ready(t, isTimes(s)); err != api.OK {
		return api.Box{}, err
	}
	i, a := place(t, s.Lo)
	j, b := place(t, s.Hi) // not ahead of the first place: no rounding turns two times round
	rows := t.Rows[i : j+1]
	return api.Box{X: values(rows, 0, a, b), Y: values(rows, 1, a, b), Z: values(rows, 2, a, b)}, api.OK
}

// may: may c be coefficients? (Their count comes first, so that not more than a few are made wide.)
func may(c []float32) bool {
	return len(c) <= api.MaxTerms && poly.Check(wide(c)) == api.OK
}

// wide: the same coefficients in binary64.
func wide(c []float32) []float64 {
	w := make([]float64, len(c))
	for k := range len(c) {
		w[k] = grain.Wide(c[k])
	}
	return w
}

// isTime, isTimes: may it be a time, a span of times?
func isTime(d float64) bool   { return grain.Fit(d) && math.Abs(d) <= api.MaxDays }
func isTimes(s api.Span) bool { return span.Check(s) == api.OK && isTime(s.Lo) && isTime(s.Hi) }

// ready: what is wrong with a table that is to tell something, or with a time of which the caller knows whether it may be.
func ready(t api.Table, time bool) api.Errno {
	if err := Check(t); err != api.OK {
		return err
	}
	if !time || len(t.Rows) == 0 {
		return api.ErrDate
	}
	return api.OK
}

// place: the row that tells d days, and where in it, from -1 to 1. (The product is converted, lest it be fused with the difference.)
func place(t api.Table, d float64) (int, float64) {
	y := (d - t.From) / t.Step
	if y <= 0 {
		return 0, -1
	}
	if y >= float64(len(t.Rows)) {
		return len(t.Rows) - 1, 1
	}
	i := math.Floor(y)
	return int(i), brought(float64((y-i)*2) - 1)
}

// value: of the polynomial with the coefficients c at x.
func value(c []float32, x float64) float64 { return brought(sure(poly.Cheb(wide(c), x))) }

// values: what holds all that the rows tell along an axis, from a on in the first one and up to b in the last.
func values(rows [][3][]float32, axis int, a, b float64) api.Span {
	var held api.Span
	total := 0.0
	for i := range len(rows) {
		c := wide(rows[i][axis])
		part := sure(poly.ChebSpan(c, over(i, len(rows), a, b)))
		if i == 0 {
			held = part
		}
		held = sure(span.Hull(held, part))
		for _, x := range c {
			total += math.Abs(x)
		}
	}
	m := brought(total / roundings)
	return sure(span.Add(held, sure(span.Make(-m, m))))
}

// over: which part of row i of n is looked at, from a on in the first one and up to b in the last.
func over(i, n int, a, b float64) api.Span {
	part := api.Span{Lo: -1, Hi: 1}
	if i == 0 {
		part.Lo = a
	}
	if i == n-1 {
		part.Hi = b
	}
	return part
}
