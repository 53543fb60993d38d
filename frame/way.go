package frame

import (
	"orrery/api"
	"orrery/grain"
	"orrery/span"
	"orrery/vec"
)

// Root: v of frame i as the root has it.
func Root(l []api.Frame, i int, d float64, v api.Vec) (api.Vec, api.Errno) {
	if err := ready(l, i, Time(d)); err != api.OK {
		return api.Vec{}, err
	}
	w, err := still(v)
	for err == api.OK && i != root {
		w, err = up(l[i], d, w)
		i = l[i].Up
	}
	return w, err
}

// Into: v of the root as frame i has it.
func Into(l []api.Frame, i int, d float64, v api.Vec) (api.Vec, api.Errno) {
	if err := ready(l, i, Time(d)); err != api.OK {
		return api.Vec{}, err
	}
	w, err := still(v)
	way := wayUp(l, i)
	for k := range len(way) {
		if err != api.OK {
			break
		}
		w, err = down(l[way[len(way)-1-k]], d, w)
	}
	return w, err
}

// Change: v of one frame as another one has it.
func Change(l []api.Frame, from, to int, d float64, v api.Vec) (api.Vec, api.Errno) {
	if err := ready(l, from, Time(d)); err != api.OK {
		return api.Vec{}, err
	}
	if !has(l, to) {
		return api.Vec{}, api.ErrArg
	}
	w, err := Root(l, from, d, v)
	if err != api.OK {
		return api.Vec{}, err
	}
	return Into(l, to, d, w)
}

// RootBox: what holds all vectors of frame i that lie in b as the root has them at all times of t.
func RootBox(l []api.Frame, i int, t api.Span, b api.Box) (api.Box, api.Errno) {
	if err := ready(l, i, Times(t)); err != api.OK {
		return api.Box{}, err
	}
	w, err := vec.BoxAdd(b, api.Box{}) // as it is, but for the sign of noughts
	for err == api.OK && i != root {
		w, err = upBox(l[i], t, w)
		i = l[i].Up
	}
	return w, err
}

// still: v as it is, but for the sign of noughts.
func still(v api.Vec) (api.Vec, api.Errno) { return vec.Add(v, api.Vec{}) }

// wayUp: the frames from i up to the one that lies in the root.
func wayUp(l []api.Frame, i int) []int {
	var way []int
	for i != root {
		way = append(way, i)
		i = l[i].Up
	}
	return way
}

// angle: how far f has turned at d days. (The product is converted, lest it be fused with the sum.)
func angle(f api.Frame, d float64) float64 {
	a := f.Phase + float64(f.Rate*d)
	if !grain.Fit(a) { // too small: above, it is at most a little more than 2^34
		return 0
	}
	return a
}

// up: v of f in the frame in which f lies.
func up(f api.Frame, d float64, v api.Vec) (api.Vec, api.Errno) {
	m, err := vec.Turned(f.Axis, angle(f, d))
	if err != api.OK {
		return api.Vec{}, err
	}
	w, err := vec.Apply(m, v)
	if err != api.OK {
		return api.Vec{}, err
	}
	return vec.Add(f.Origin, w)
}

// down: v of the frame in which f lies, in f.
func down(f api.Frame, d float64, v api.Vec) (api.Vec, api.Errno) {
	w, err := vec.Sub(v, f.Origin)
	if err != api.OK {
		return api.Vec{}, err
	}
	m, err := vec.Turned(f.Axis, angle(f, d))
	if err != api.OK {
		return api.Vec{}, err
	}
	back, err := vec.Flip(m)
	if err != api.OK {
		return api.Vec{}, err
	}
	return vec.Apply(back, w)
}

// angles: what holds all angles of f over t.
func angles(f api.Frame, t api.Span) (api.Span, api.Errno) {
	phase, rate := api.Span{Lo: f.Phase, Hi: f.Phase}, api.Span{Lo: f.Rate, Hi: f.Rate}
	turned, err := span.Mul(rate, t)
	if err != api.OK {
		return api.Span{}, err
	}
	return span.Add(phase, turned)
}

// upBox: what holds all vectors of f that lie in b, in the frame in which f lies, at all times of t.
func upBox(f api.Frame, t api.Span, b api.Box) (api.Box, api.Errno) {
	a, err := angles(f, t)
	if err != api.OK {
		return api.Box{}, err
	}
	turned, err := vec.BoxTurn(f.Axis, a, b)
	if err != api.OK {
		return api.Box{}, err
	}
	origin, err := vec.BoxOf(f.Origin)
	if err != api.OK {
		return api.Box{}, err
	}
	return vec.BoxAdd(origin, turned)
}
