package frame_test

import (
	"math"
	"math/big"
	"testing"

	"orrery/api"
	"orrery/frame"
	"orrery/span"
	"orrery/vec"
)

func magnitudes(v api.Vec) float64 { return math.Abs(v.X) + math.Abs(v.Y) + math.Abs(v.Z) }

// size: the chapter's S.
func size(l []api.Frame, v api.Vec) float64 {
	s := magnitudes(v)
	for _, f := range l {
		s += magnitudes(f.Origin)
	}
	return s
}

// near: does v lie, number by number, within a bound of w?
func near(v, w api.Vec, bound float64) bool {
	return math.Abs(v.X-w.X) <= bound && math.Abs(v.Y-w.Y) <= bound && math.Abs(v.Z-w.Z) <= bound
}

// tame: a list of frames whose numbers are of like magnitudes, so that no vector swallows the others.
func (c *chance) tame() []api.Frame {
	low := c.below(200) - 170
	l := make([]api.Frame, 1+c.below(api.MaxFrames))
	for i := range l {
		l[i] = c.frame(i)
		l[i].Origin = c.around(low)
	}
	return l
}

// around: a vector of numbers of magnitudes from 2^low on.
func (c *chance) around(low int) api.Vec {
	return at(c.number(low, low+4), c.number(low, low+4), c.number(low, low+4))
}

// A place is frames, the number of one, and a vector of it.
type place struct {
	l []api.Frame
	i int
	v api.Vec
}

func places(seed chance, n int) []place {
	var all []place
	for range n {
		l := seed.frames()
		all = append(all, place{l, seed.one(l), seed.vector()})
		l = seed.tame()
		all = append(all, place{l, len(l) - 1, seed.around(int(math.Log2(magnitudes(l[0].Origin))) - 2)})
	}
	return all
}

// P10.2.

func TestThereAndBack(t *testing.T) {
	c := chance(11)
	fine := 0
	for _, p := range places(12, 3000) {
		d := c.time()
		there, err := frame.Root(p.l, p.i, d, p.v)
		if err != api.OK {
			continue
		}
		back, err := frame.Into(p.l, p.i, d, there)
		if err != api.OK {
			continue
		}
		fine++
		bound := 0x1p-38*size(p.l, p.v) + 0x1p-180
		check(t, near(back, p.v, bound), p, d, "there and back:", back)
		back, err = frame.Change(p.l, p.i, p.i, d, p.v)
		check(t, err == api.OK && near(back, p.v, bound), p, d, "changed:", back)
	}
	check(t, fine > 5000, fine)
}

// P10.3.

func wider(s api.Span, by float64) api.Span { return to(s.Lo-by, s.Hi+by) }

// within: does v lie, number by number, within a bound of b?
func within(v api.Vec, b api.Box, bound float64) bool {
	has := func(s api.Span, x float64) bool { return s.Lo-bound <= x && x <= s.Hi+bound }
	return has(b.X, v.X) && has(b.Y, v.Y) && has(b.Z, v.Z)
}

func TestBoxesHoldWhatRootAnswers(t *testing.T) {
	c := chance(13)
	fine := 0
	for _, p := range places(14, 2000) {
		d := c.time()
		v, err := frame.Root(p.l, p.i, d, p.v)
		b, also := frame.RootBox(p.l, p.i, point(d), boxOf(p.v))
		if err != api.OK || also != api.OK {
			continue
		}
		fine++
		check(t, within(v, b, 0x1p-8*size(p.l, p.v)+0x1p-180), p, d, v, "not in", b)
	}
	check(t, fine > 3000, fine)
}

// P4 of it: what is answered holds the true places, by numbers of many more digits.

const digits = 400

func wide(x float64) *big.Float { return new(big.Float).SetPrec(digits).SetFloat64(x) }

func sum(x, y *big.Float) *big.Float { return wide(0).Add(x, y) }

func less(x, y *big.Float) *big.Float { return wide(0).Sub(x, y) }

func times(x, y *big.Float) *big.Float { return wide(0).Mul(x, y) }

// circle: 2 pi, by Machin's sum: pi is 16 arctan 1/5 less 4 arctan 1/239.
func circle() *big.Float {
	arctan := func(n float64) *big.Float {
		power := wide(0).Quo(wide(1), wide(n))
		all := wide(0)
		for k := range 200 {
			term := wide(0).Quo(power, wide(float64(2*k+1)))
			if k%2 == 1 {
				term.Neg(term)
			}
			all = sum(all, term)
			power.Quo(power, wide(n*n))
		}
		return all
	}
	return less(times(wide(32), arctan(5)), times(wide(8), arctan(239)))
}

// sines: the sine and the cosine of turns, by their series at what is left of whole turns.
func sines(round, turned *big.Float) (s, c *big.Float) {
	whole, _ := turned.Int(nil)
	y := times(round, less(turned, wide(0).SetInt(whole)))
	s, c = wide(0), wide(0)
	term := wide(1)
	for k := range 120 {
		part := wide(0).Set(term)
		if k%4 > 1 {
			part.Neg(part)
		}
		if k%2 == 0 {
			c = sum(c, part)
		} else {
			s = sum(s, part)
		}
		term = wide(0).Quo(times(term, y), wide(float64(k+1)))
	}
	return s, c
}

type truth [3]*big.Float

func trueRoot(round *big.Float, l []api.Frame, i int, d float64, v api.Vec) truth {
	w := truth{wide(v.X), wide(v.Y), wide(v.Z)}
	for ; i >= 0; i = l[i].Up {
		f := l[i]
		s, c := sines(round, sum(wide(f.Phase), times(wide(f.Rate), wide(d))))
		p, q := w[(f.Axis+1)%3], w[(f.Axis+2)%3]
		w[(f.Axis+1)%3] = less(times(c, p), times(s, q))
		w[(f.Axis+2)%3] = sum(times(s, p), times(c, q))
		w = truth{sum(w[0], wide(f.Origin.X)), sum(w[1], wide(f.Origin.Y)), sum(w[2], wide(f.Origin.Z))}
	}
	return w
}

// holds: does each true number lie in its span (but for what even many digits leave)?
func holds(b api.Box, w truth, bound float64) bool {
	has := func(s api.Span, x *big.Float) bool {
		return less(x, wide(s.Lo)).Cmp(wide(-bound)) >= 0 && less(wide(s.Hi), x).Cmp(wide(-bound)) >= 0
	}
	return has(b.X, w[0]) && has(b.Y, w[1]) && has(b.Z, w[2])
}

// moment: a time of a span that is fit.
func (c *chance) moment(s api.Span) float64 {
	d := min(max(s.Lo+float64(c.part()*(s.Hi-s.Lo)), s.Lo), s.Hi)
	if c.below(5) == 0 || !frame.Time(d) {
		return s.Lo
	}
	return d
}

// inside: a vector of a box.
func (c *chance) inside(b api.Box) api.Vec {
	one := func(s api.Span) float64 {
		switch c.below(3) {
		case 0:
			return s.Lo
		case 1:
			return s.Hi
		}
		x, _ := span.Mid(s)
		return x
	}
	v := at(one(b.X), one(b.Y), one(b.Z))
	if !vec.Fit(v) {
		return at(b.X.Lo, b.Y.Lo, b.Z.Lo)
	}
	return v
}

func TestBoxesHoldTheTruePlaces(t *testing.T) {
	c := chance(15)
	round := circle()
	x, _ := round.Float64()
	check(t, x == 2*math.Pi, "2 pi", x)
	fine := 0
	for _, p := range places(16, 150) {
		for range 2 {
			s := c.times()
			b := c.box()
			if c.below(2) == 0 {
				b = boxOf(p.v)
			}
			box, err := frame.RootBox(p.l, p.i, s, b)
			if err != api.OK {
				continue
			}
			fine++
			d, v := c.moment(s), c.inside(b)
			w := trueRoot(round, p.l, p.i, d, v)
			check(t, holds(box, w, 0x1p-250*size(p.l, v)+0x1p-300), p, s, b, "at", d, v, box, w)
		}
	}
	check(t, fine > 400, fine)
}

// P10.4.

func TestBoxesOfSpansOfTimesMeet(t *testing.T) {
	c := chance(17)
	fine := 0
	for _, p := range places(18, 1500) {
		s := c.times()
		b := c.box()
		if c.below(2) == 0 {
			b = boxOf(p.v)
		}
		over, err := frame.RootBox(p.l, p.i, s, b)
		for _, d := range []float64{s.Lo, s.Hi, c.moment(s)} {
			then, also := frame.RootBox(p.l, p.i, point(d), b)
			if err != api.OK || also != api.OK {
				continue
			}
			fine++
			check(t, vec.BoxMeet(over, then), p, s, b, "at", d, over, then)
		}
	}
	check(t, fine > 5000, fine)
}

// P10.5.

func TestStill(t *testing.T) {
	c := chance(19)
	for _, p := range places(20, 300) {
		for k := range p.l {
			p.l[k].Rate = math.Copysign(0, 0.5-float64(c.below(2)))
		}
		root, into := ofVec(frame.Root(p.l, p.i, 0, p.v)), ofVec(frame.Into(p.l, p.i, 0, p.v))
		for range 5 {
			d := c.time()
			check(t, root.same(ofVec(frame.Root(p.l, p.i, d, p.v))), "Root", p, d)
			check(t, into.same(ofVec(frame.Into(p.l, p.i, d, p.v))), "Into", p, d)
		}
	}
}
