package step

import (
	"math"

	"orrery/api"
)

// No two masses count as nearer than the root of this; and no number of a pull is of a greater magnitude than the other.
const (
	nearness     = 0x1p20
	greatestPull = 0x1p32
)

// step: the masses go a step by h, as long as they may be. (A kick leaves the places where the first drift brought them, so that a look behind it tells of both; the last drift may bring them back.)
func step(l []api.Mass, g float64, h int64) api.Errno {
	drift(l, h)
	kick(l, g, h)
	if err := Check(l); err != api.OK {
		return err
	}
	drift(l, h)
	return Check(l)
}

// drift: the places go on by half of what the impulses make of them.
func drift(l []api.Mass, h int64) {
	for i := range l {
		m := &l[i]
		for k := range 3 {
			m.X[k] += h * rounded(float64(m.P[k])/float64(2*m.M))
		}
	}
}

// kick: each two masses draw one another. (On the way impulses may be greater than they may stay: eight masses can't make them overflow.)
func kick(l []api.Mass, g float64, h int64) {
	for j := range l {
		for i := range j {
			p := pull(l[i], l[j], g)
			for k := range 3 {
				l[i].P[k] += h * p[k]
				l[j].P[k] -= h * p[k]
			}
		}
	}
}

// pull: what a gets from b. (The product of f is converted, lest it be fused with the half of rounding.)
func pull(a, b api.Mass, g float64) [3]int64 {
	d, far := apart(a, b)
	f := drawing(a, b, g) / float64(far*math.Sqrt(far))
	var p [3]int64
	for k := range 3 {
		p[k] = rounded(max(-greatestPull, min(greatestPull, float64(f*d[k]))))
	}
	return p
}

// apart: the way from a to b, and the square of its length together with the nearness.
func apart(a, b api.Mass) ([3]float64, float64) {
	var d [3]float64
	far := nearness
	for k := range 3 {
		d[k] = float64(b.X[k] - a.X[k])
		far += float64(d[k] * d[k])
	}
	return d, far
}

// drawing: g times both masses, whose product is exact.
func drawing(a, b api.Mass, g float64) float64 { return g * float64(a.M*b.M) }

// rounded: the whole number nearest to x, halves away from 0. (Here x + 1/2 is rounded ahead, so that the number just below 1/2 makes 1.)
func rounded(x float64) int64 {
	if x < 0 {
		return -rounded(-x)
	}
	return int64(math.Floor(x + 0.5))
}
