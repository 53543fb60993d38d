package vec

import (
	"orrery/api"
	"orrery/turn"
)

// Turned: the matrix that turns about an axis by x turns.
func Turned(axis int, x float64) (api.Mat, api.Errno) {
	if !isAxis(axis) {
		return api.Mat{}, api.ErrArg
	}
	s, c, err := turn.Both(x)
	if err != api.OK {
		return api.Mat{}, err
	}
	var m api.Mat
	switch axis {
	case 0:
		m = api.Mat{{X: 1}, {Y: c, Z: -s}, {Y: s, Z: c}}
	case 1:
		m = api.Mat{{X: c, Z: s}, {Y: 1}, {X: -s, Z: c}}
	case 2:
		m = api.Mat{{X: c, Y: -s}, {X: s, Y: c}, {Z: 1}}
	}
	return toldMat(m)
}

// Apply: v as m turns it.
func Apply(m api.Mat, v api.Vec) (api.Vec, api.Errno) {
	if !fitMat(m) || !Fit(v) {
		return api.Vec{}, api.ErrFit
	}
	return told(products(m, v))
}

// Flip: rows as columns, which of a matrix that turns is the one that turns back.
func Flip(m api.Mat) (api.Mat, api.Errno) {
	if !fitMat(m) {
		return api.Mat{}, api.ErrFit
	}
	return toldMat(columns(m))
}

// Times: the matrix that does what b and then a does.
func Times(a, b api.Mat) (api.Mat, api.Errno) {
	if !fitMat(a) || !fitMat(b) {
		return api.Mat{}, api.ErrFit
	}
	c := columns(b)
	var m api.Mat
	for i := range len(m) {
		m[i] = products(c, a[i]) // either way about, a product is the same
	}
	return toldMat(m)
}

// isAxis: is it the number of an axis?
func isAxis(axis int) bool { return 0 <= axis && axis <= 2 }

// fitMat: may m be a matrix?
func fitMat(m api.Mat) bool { return Fit(m[0]) && Fit(m[1]) && Fit(m[2]) }

// products: of each row and v.
func products(m api.Mat, v api.Vec) api.Vec {
	return api.Vec{X: product(m[0], v), Y: product(m[1], v), Z: product(m[2], v)}
}

// columns: the columns of m.
func columns(m api.Mat) api.Mat {
	return api.Mat{
		{X: m[0].X, Y: m[1].X, Z: m[2].X},
		{X: m[0].Y, Y: m[1].Y, Z: m[2].Y},
		{X: m[0].Z, Y: m[1].Z, Z: m[2].Z},
	}
}

// toldMat: m as an answer, row by row.
func toldMat(m api.Mat) (api.Mat, api.Errno) {
	for i := range len(m) {
		row, err := told(m[i])
		if err != api.OK {
			return api.Mat{}, err
		}
		m[i] = row
	}
	return m, api.OK
}
