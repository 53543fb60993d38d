package wave_test

import (
	"math"
	"slices"
	"testing"

	"orrery/api"
	"orrery/frame"
	"orrery/grain"
	"orrery/span"
	"orrery/wave"
)

func numbers(v api.Vec) [3]float64 { return [3]float64{v.X, v.Y, v.Z} }

// A sea is waves and a time.
type sea struct {
	l []api.Wave
	d float64
}

// seas: any waves at any time, and such as are all as high as they come, at the last times.
func seas(seed chance, n int) []sea {
	var all []sea
	for range n {
		l := seed.waves()
		high := slices.Clone(l)
		for i := range high {
			high[i].Axis, high[i].Rate = 0, 0
			high[i].Phase = float64(seed.below(5) - 2)
			if high[i].Amp < 0 {
				high[i].Phase += 0.5
			}
		}
		all = append(all, sea{l, seed.time()}, sea{l, seed.either(latest)}, sea{high, latest}, sea{high, grain.Prev(latest)})
	}
	return all
}

// P12.2.

func TestReach(t *testing.T) {
	tight := 0
	for _, s := range seas(31, 3000) {
		reach, err := wave.Reach(s.l)
		v, also := wave.At(s.l, s.d)
		check(t, err == api.OK && also == api.OK, s, err, also)
		for _, x := range numbers(v) {
			check(t, math.Abs(x) <= reach, "At", s, v, "beyond", reach)
			if x != 0 && math.Abs(x) > reach*(1-0x1p-9) {
				tight++
			}
		}
	}
	check(t, tight > 5000, tight)
}

// P12.3.

func TestNarrow(t *testing.T) {
	off := 0
	for _, s := range seas(32, 3000) {
		narrow, bound, err := wave.Narrow(s.l)
		v, also := wave.At(s.l, s.d)
		n, again := wave.At(narrow, s.d)
		check(t, err == api.OK && also == api.OK && again == api.OK, s, err, also, again)
		check(t, wave.Check(narrow) == api.OK, s, narrow)
		for i, x := range numbers(v) {
			by := math.Abs(x - numbers(n)[i])
			check(t, by <= bound+0x1p-190, "At", s, v, n, "off by", by, "not", bound)
			if by > 0 {
				off++
			}
		}
	}
	check(t, off > 5000, off)
}

// Waves that are narrow stay as they are.
func TestNarrowOfNarrowWaves(t *testing.T) {
	c := chance(33)
	for range 3000 {
		narrow, _, err := wave.Narrow(c.waves())
		twice, bound, also := wave.Narrow(narrow)
		reach, _ := wave.Reach(narrow)
		check(t, err == api.OK && ofWaves(twice, bound, also).is(narrow, reach/0x1p40, api.OK), narrow, twice, bound)
	}
}

// P12.5.

// times2: waves with all Amps 2^k times as high, or negated too.
func times2(l []api.Wave, k int, sign float64) []api.Wave {
	m := slices.Clone(l)
	for i := range m {
		m[i].Amp = math.Ldexp(sign*m[i].Amp, k)
	}
	return m
}

func TestSign(t *testing.T) {
	for _, s := range seas(34, 2000) {
		v, n := ofVec(wave.At(s.l, s.d)), ofVec(wave.At(times2(s.l, 0, -1), s.d))
		check(t, v.err == api.OK && n.is(at(0-v.v.X, 0-v.v.Y, 0-v.v.Z), api.OK), "At", s, v, n)
	}
}

func TestScale(t *testing.T) {
	c := chance(35)
	scaled := 0
	for _, s := range seas(36, 3000) {
		k := c.below(41) - 20
		m := times2(s.l, k, 1)
		if wave.Check(m) != api.OK || s.d != 0 && math.Abs(s.d) < 0x1p-40 {
			continue
		}
		v, err := wave.At(s.l, s.d)
		n, also := wave.At(m, s.d)
		check(t, err == api.OK && also == api.OK, s, k, err, also)
		for i, x := range numbers(v) {
			y := numbers(n)[i]
			if x == 0 { // so it may be, because it was too small
				check(t, math.Abs(y) < math.Ldexp(least, k), "At", s, k, v, n)
				continue
			}
			scaled++
			check(t, same(y, fitted(math.Ldexp(x, k))+0), "At", s, k, v, n)
		}
	}
	check(t, scaled > 5000, scaled)
}

// Noughts are +0, whatever their signs are in what is handed in.
func TestNoughts(t *testing.T) {
	n := negZero
	for axis := range 3 {
		for power := range 3 {
			l := []api.Wave{{Axis: axis, Power: power, Amp: n, Phase: n, Rate: n}}
			for _, d := range []float64{0, n, -1, 1} {
				check(t, ofVec(wave.At(l, d)).is(api.Vec{}, api.OK), "At", l, d)
				check(t, ofBox(wave.Box(l, point(d))).is(api.Box{}, api.OK), "Box", l, d)
				check(t, ofBox(wave.Box(l, to(-1, n))).is(api.Box{}, api.OK), "Box", l, d)
			}
			check(t, ofNumber(wave.Reach(l)).is(0, api.OK), "Reach", l)
			plain := []api.Wave{{Axis: axis, Power: power}}
			check(t, ofWaves(wave.Narrow(l)).is(plain, 0, api.OK), "Narrow", l)
		}
	}
	for _, l := range [][]api.Wave{{{Amp: 1, Phase: 0.25}}, {{Amp: -1, Phase: 0.25}}, {{Amp: -1, Phase: 0.125, Power: 1}}, {{Amp: -least, Phase: 0.125}}} {
		for _, d := range []float64{0, n} {
			check(t, ofVec(wave.At(l, d)).is(api.Vec{}, api.OK), "At", l, d)
		}
	}
	for _, d := range []float64{0, n} { // noughts don't count otherwise
		v := ofVec(wave.At([]api.Wave{{Amp: 2, Phase: n, Rate: n}, {Amp: n}}, d))
		check(t, v.is(at(2, 0, 0), api.OK), "At", v)
	}
}

// What is handed in is neither changed nor kept, its spare room neither; what is answered is new.
func TestHandedIn(t *testing.T) {
	c := chance(37)
	for range 500 {
		l := c.waves()
		full := append(l, c.wave(), c.wave())
		old := slices.Clone(full)
		d, days := c.time(), c.days()
		l = full[:len(l)]
		v, b, reach := ofVec(wave.At(l, d)), ofBox(wave.Box(l, days)), ofNumber(wave.Reach(l))
		n := ofWaves(wave.Narrow(l))
		kept := slices.Clone(n.l)
		check(t, slices.EqualFunc(full, old, sameWave), "changed", old, full)
		for i := range full {
			full[i] = api.Wave{Axis: 7}
		}
		check(t, n.is(kept, n.off, api.OK), "shared", n, kept)
		copy(full, old)
		for i := range n.l[:cap(n.l)] {
			n.l[:cap(n.l)][i] = api.Wave{Axis: 8}
		}
		check(t, slices.EqualFunc(full, old, sameWave), "shared", old, full)
		again := ofWaves(wave.Narrow(l))
		check(t, again.is(kept, n.off, api.OK), "Narrow", again, kept)
		check(t, v.is(wave.At(l, d)) && b.is(wave.Box(l, days)) && reach.is(wave.Reach(l)), l, d, days)
	}
}

// P1: each call answers, whatever the bits; nothing beside an error; and only what may be an answer.

func (c *chance) any(greatest float64) float64 {
	if c.below(60) == 0 {
		return math.Float64frombits(c.bits())
	}
	return c.some(greatest)
}

func (c *chance) anyWaves() []api.Wave {
	l := c.waves()
	if c.below(20) == 0 {
		l = make([]api.Wave, 30+c.below(10))
	}
	for i := range l {
		switch c.below(300) {
		case 0:
			l[i].Axis = int(c.bits())
		case 1:
			l[i].Power = int(c.bits())
		case 2:
			l[i].Amp = math.Float64frombits(c.bits())
		case 3:
			l[i].Phase = math.Float64frombits(c.bits())
		case 4:
			l[i].Rate = math.Float64frombits(c.bits())
		}
	}
	return l
}

// wantCheck: the chapter's words.
func wantCheck(l []api.Wave) api.Errno {
	if len(l) > 32 {
		return api.ErrLong
	}
	for _, w := range l {
		small := math.Abs(w.Amp) <= loud && math.Abs(w.Phase) <= turns && math.Abs(w.Rate) <= turns
		fit := grain.Fit(w.Amp) && grain.Fit(w.Phase) && grain.Fit(w.Rate)
		if w.Axis < 0 || w.Axis > 2 || w.Power < 0 || w.Power > 2 || !small || !fit {
			return api.ErrWave
		}
	}
	return api.OK
}

func TestAnyBits(t *testing.T) {
	c := chance(38)
	counted := map[api.Errno]int{}
	for range 20000 {
		l, d, days := c.anyWaves(), c.any(latest), to(c.any(latest), c.any(latest))
		wrong := wantCheck(l)
		check(t, wave.Check(l) == wrong, "Check", l)
		reach := ofNumber(wave.Reach(l))
		check(t, reach.err == wrong && grain.Fit(reach.x) && (wrong == api.OK || reach.refused(wrong)), "Reach", l, reach)
		n := ofWaves(wave.Narrow(l))
		check(t, n.err == wrong && grain.Fit(n.off) && wave.Check(n.l) == api.OK && (wrong == api.OK || n.refused(wrong)), "Narrow", l, n)
		err := wrong
		if err == api.OK && !frame.Time(d) {
			err = api.ErrDate
		}
		counted[err]++
		v := ofVec(wave.At(l, d))
		fit := grain.Fit(v.v.X) && grain.Fit(v.v.Y) && grain.Fit(v.v.Z)
		check(t, v.err == err && fit && (err == api.OK || v.refused(err)), "At", l, d, v)
		if err = wrong; err == api.OK && !frame.Times(days) {
			err = api.ErrDate
		}
		counted[err]++
		b := ofBox(wave.Box(l, days))
		may := span.Check(b.b.X) == api.OK && span.Check(b.b.Y) == api.OK && span.Check(b.b.Z) == api.OK
		check(t, b.err == err && may && (err == api.OK || b.refused(err)), "Box", l, days, b)
	}
	check(t, len(counted) == 4 && counted[api.OK] > 5000, counted)
}
