package sky_test

import (
	"math"
	"math/big"
	"slices"
	"testing"

	"orrery/api"
	"orrery/cheb"
	"orrery/frame"
	"orrery/orbit"
	"orrery/sky"
	"orrery/span"
	"orrery/vec"
	"orrery/wave"
)

// A chance answers numbers that depend on nothing but how many were asked for ahead of them.
type chance uint64

func (c *chance) bits() uint64 {
	*c = *c*6364136223846793005 + 1442695040888963407
	return uint64(*c ^ *c>>29)
}

func (c *chance) below(n int) int { return int(c.bits() >> 11 % uint64(n)) }

// part: from 0 on, below 1.
func (c *chance) part() float64 { return float64(c.bits()>>11) / (1 << 53) }

// number: of a magnitude from 2^low on, below 2^high.
func (c *chance) number(low, high int) float64 {
	x := math.Ldexp(1+c.part(), low+c.below(high-low))
	if c.below(3) == 0 { // few digits, so that results may be exact
		x = math.Ldexp(float64(4+c.below(4)), low-2+c.below(high-low))
	}
	if c.below(2) == 0 {
		return -x
	}
	return x
}

// some: a number that is at most greatest: 0, an end, of a few quarters, or another.
func (c *chance) some(greatest float64) float64 {
	switch c.below(8) {
	case 0:
		return 0
	case 1:
		return negZero
	case 2:
		return math.Copysign(greatest, 0.5-float64(c.below(2)))
	case 3:
		return math.Copysign(least, 0.5-float64(c.below(2)))
	case 4:
		return float64(c.below(41)-20) / 4
	case 5:
		return c.number(-200, int(math.Log2(greatest)))
	}
	return c.number(-10, int(math.Log2(greatest)))
}

func (c *chance) turns() float64 { return c.some(0x1p10) }

func (c *chance) time() float64 { return c.some(latest) }

// times: a span of times, more often than not a short one.
func (c *chance) times() api.Span {
	d, e := c.time(), c.time()
	if c.below(3) > 0 {
		e = min(d+float64(c.below(64))/64, latest)
		if c.below(4) == 0 {
			e = d
		}
	}
	return to(min(d, e), max(d, e))
}

// moment: a time of a span.
func (c *chance) moment(s api.Span) float64 {
	d := min(max(s.Lo+float64(c.part()*(s.Hi-s.Lo)), s.Lo), s.Hi)
	switch {
	case c.below(5) == 0 || !frame.Time(d):
		return s.Lo
	case c.below(5) == 0:
		return s.Hi
	}
	return d
}

// vector: where a body may be fixed, its numbers near each other or far apart.
func (c *chance) vector() api.Vec {
	if c.below(2) == 0 {
		return at(c.some(away), c.some(away), c.some(away))
	}
	low := c.below(220) - 190
	return at(c.number(low, low+4), c.number(low, low+4), c.number(low, low+4))
}

func (c *chance) orbit() api.Orbit {
	axis := math.Abs(c.number(-20, 40))
	return api.Orbit{Axis: axis, Ecc: 0.875 * c.part(), Tilt: c.turns(), Node: c.turns(), Peri: c.turns(), Phase: c.turns(), Rate: c.turns()}
}

func (c *chance) waves() []api.Wave {
	l := make([]api.Wave, c.below(6))
	for i := range l {
		l[i] = api.Wave{Axis: c.below(3), Power: c.below(3), Amp: c.some(away), Phase: c.turns(), Rate: c.turns()}
	}
	if c.below(40) == 0 { // so many and so great ones that they may lead beyond all vectors
		l = slices.Repeat([]api.Wave{{Axis: c.below(3), Power: 2, Amp: away, Rate: c.turns()}}, 1+c.below(32))
	}
	return l
}

func (c *chance) table() api.Table {
	t := table(c.time(), math.Ldexp(1+c.part(), c.below(34)-10))
	for range 1 + c.below(6) {
		var row [3][]float32
		for k := range row {
			for range c.below(5) {
				row[k] = append(row[k], float32(c.number(-30, 39)))
			}
		}
		t.Rows = append(t.Rows, row)
	}
	return t
}

func (c *chance) frames() []api.Frame {
	l := make([]api.Frame, 1+c.below(4))
	for i := range l {
		l[i] = api.Frame{Up: c.below(i+1) - 1, Axis: c.below(3), Phase: c.turns(), Rate: c.turns(), Origin: c.vector()}
	}
	return l
}

// body: one for a sky of these frames, its number i.
func (c *chance) body(l []api.Frame, i int) api.Body {
	b := api.Body{Kind: 1 + c.below(5), Up: i - 1, Size: math.Abs(c.some(away))} // more often than not about the one ahead, for long ways
	if c.below(3) == 0 {
		b.Up = c.below(i+1) - 1
	}
	switch b.Kind {
	case api.Orbiting:
		b.Orbit = c.orbit()
	case api.Waving:
		b.Waves = c.waves()
	case api.Tabled:
		b.Table = c.table()
	case api.Riding:
		b.Frame = c.below(len(l))
		b.At = c.vector()
	default:
		b.At = c.vector()
	}
	return b
}

func (c *chance) sky() api.Sky {
	s := api.Sky{Light: math.Ldexp(1+c.part(), c.below(80)-20), Frames: c.frames()}
	for i := range 1 + c.below(api.MaxBodies) {
		s.Bodies = append(s.Bodies, c.body(s.Frames, i))
	}
	return s
}

// own, ownBox: the own way of a body, by the calls of the layers that tell it.
func own(s api.Sky, b api.Body, d float64) (api.Vec, api.Errno) {
	ways := map[int]func() (api.Vec, api.Errno){
		1: func() (api.Vec, api.Errno) { return at(b.At.X+0, b.At.Y+0, b.At.Z+0), api.OK },
		2: func() (api.Vec, api.Errno) { return orbit.At(b.Orbit, d) },
		3: func() (api.Vec, api.Errno) { return wave.At(b.Waves, d) },
		4: func() (api.Vec, api.Errno) { return cheb.At(b.Table, d) },
		5: func() (api.Vec, api.Errno) { return frame.Root(s.Frames, b.Frame, d, b.At) },
	}
	return ways[b.Kind]()
}

func ownBox(s api.Sky, b api.Body, t api.Span) (api.Box, api.Errno) {
	ways := map[int]func() (api.Box, api.Errno){
		1: func() (api.Box, api.Errno) { return boxOf(b.At), api.OK },
		2: func() (api.Box, api.Errno) { return orbit.Box(b.Orbit, t) },
		3: func() (api.Box, api.Errno) { return wave.Box(b.Waves, t) },
		4: func() (api.Box, api.Errno) { return cheb.Box(b.Table, t) },
		5: func() (api.Box, api.Errno) { return frame.RootBox(s.Frames, b.Frame, t, boxOf(b.At)) },
	}
	return ways[b.Kind]()
}

// The chapter's words once more, and chapter 7's of sums.

// wantNumber: the sum of two numbers, by the library's numbers of any length and rounded once; and whether it may be a vector's.
func wantNumber(x, y float64) (float64, bool) {
	z, _ := new(big.Float).SetPrec(53).Add(big.NewFloat(x), big.NewFloat(y)).Float64()
	if math.Abs(z) < least {
		return 0, true
	}
	return z, math.Abs(z) <= far
}

func wantPlace(s api.Sky, i int, d float64) toldVec {
	sum := [3]float64{}
	for ; i >= 0; i = s.Bodies[i].Up {
		v, err := own(s, s.Bodies[i], d)
		if err != api.OK {
			return ofVec(api.Vec{}, err)
		}
		for k, x := range [3]float64{v.X, v.Y, v.Z} {
			fine := false
			if sum[k], fine = wantNumber(x, sum[k]); !fine || math.Abs(x) > far {
				return ofVec(api.Vec{}, api.ErrFit)
			}
		}
	}
	return ofVec(at(sum[0], sum[1], sum[2]), api.OK)
}

func wantBox(s api.Sky, i int, t api.Span) toldBox {
	sum := [3]api.Span{}
	for ; i >= 0; i = s.Bodies[i].Up {
		b, err := ownBox(s, s.Bodies[i], t)
		if err != api.OK {
			return ofBox(api.Box{}, err)
		}
		for k, x := range [3]api.Span{b.X, b.Y, b.Z} {
			if max(-x.Lo, x.Hi, -sum[k].Lo, sum[k].Hi) > far {
				return ofBox(api.Box{}, api.ErrFit)
			}
			sum[k], _ = span.Add(x, sum[k])
		}
	}
	return ofBox(api.Box{X: sum[0], Y: sum[1], Z: sum[2]}, api.OK)
}

func TestPlacesByTheChaptersWords(t *testing.T) {
	c := chance(1)
	counted := map[api.Errno]int{}
	for range 1500 {
		s := c.sky()
		check(t, sky.Check(s) == api.OK, "Check", s)
		for i := range s.Bodies {
			d, days := c.time(), c.times()
			want, got := wantPlace(s, i, d), place(s, i, d)
			counted[got.err]++
			check(t, got.same(want) && vec.Fit(got.v), "Place", i, d, "of", s, "is", got, "and should be", want)
			wantB, gotB := wantBox(s, i, days), placeBox(s, i, days)
			counted[gotB.err]++
			check(t, gotB.same(wantB), "PlaceBox", i, days, "of", s, "is", gotB, "and should be", wantB)
		}
	}
	check(t, len(counted) == 2 && counted[api.OK] > 10000 && counted[api.ErrFit] > 30, counted)
}

// P15.2, and P4 of it.

func TestBoxesMeet(t *testing.T) {
	c := chance(2)
	tried := 0
	for range 1200 {
		s := c.sky()
		for i := range s.Bodies {
			days := c.times()
			d := c.moment(days)
			all, one := placeBox(s, i, days), placeBox(s, i, point(d))
			if all.err != api.OK || one.err != api.OK {
				continue
			}
			tried++
			check(t, vec.BoxMeet(all.b, one.b), "PlaceBox", i, days, d, "of", s, all, one)
		}
	}
	check(t, tried > 8000, tried)
}

// sizes: the chapter's S.
func sizes(s api.Sky, i int, d float64) float64 {
	sum := 0.0
	for ; i >= 0; i = s.Bodies[i].Up {
		v, _ := own(s, s.Bodies[i], d)
		sum += math.Abs(v.X) + math.Abs(v.Y) + math.Abs(v.Z)
	}
	return sum
}

// off: by how much a place may be off its box: by the angles that are rounded on the way (chapters 10 to 12), and by the sums.
func off(s api.Sky, i int, d float64) float64 {
	sum := 0x1p-40 * sizes(s, i, d)
	for ; i >= 0; i = s.Bodies[i].Up {
		switch b := s.Bodies[i]; b.Kind {
		case api.Orbiting:
			sum += 0x1p-12 * b.Orbit.Axis
		case api.Waving:
			x, _ := wave.Reach(b.Waves)
			sum += 0x1p-12 * x
		case api.Riding:
			all := math.Abs(b.At.X) + math.Abs(b.At.Y) + math.Abs(b.At.Z)
			for _, f := range s.Frames {
				all += math.Abs(f.Origin.X) + math.Abs(f.Origin.Y) + math.Abs(f.Origin.Z)
			}
			sum += 0x1p-8 * all
		}
	}
	return sum + 0x1p-176
}

func TestBoxesHoldPlaces(t *testing.T) {
	c := chance(3)
	tried := 0
	for range 1200 {
		s := c.sky()
		for i := range s.Bodies {
			days := c.times()
			d := c.moment(days)
			b, v := placeBox(s, i, days), place(s, i, d)
			if b.err != api.OK || v.err != api.OK {
				continue
			}
			tried++
			check(t, holds(b.b, v.v, off(s, i, d)), "PlaceBox", i, days, d, "of", s, b, v)
		}
	}
	check(t, tried > 8000, tried)
}

// Of bodies that stand, or whose tables stand, true places are sums without rounding: they are held without any bound.
func TestBoxesHoldExactSums(t *testing.T) {
	c := chance(4)
	wide := func(x float64) *big.Float { return new(big.Float).SetPrec(600).SetFloat64(x) }
	for range 2000 {
		s := c.sky()
		exact := [3]*big.Float{wide(0), wide(0), wide(0)}
		d := c.time()
		for i := range s.Bodies {
			if b := &s.Bodies[i]; b.Kind != api.Fixed && b.Kind != api.Tabled {
				*b = fixed(i-1, c.some(away), c.some(away), c.some(away))
			}
			s.Bodies[i].Up = i - 1
			v, _ := own(s, s.Bodies[i], d)
			for k, x := range [3]float64{v.X, v.Y, v.Z} {
				exact[k].Add(exact[k], wide(x))
			}
			b := placeBox(s, i, point(d))
			check(t, b.err == api.OK, "PlaceBox", i, d, "of", s, b)
			for k, x := range [3]api.Span{b.b.X, b.b.Y, b.b.Z} {
				check(t, wide(x.Lo).Cmp(exact[k]) <= 0 && exact[k].Cmp(wide(x.Hi)) <= 0, "PlaceBox", i, d, k, "of", s, b)
			}
		}
	}
}

// P15.3.

func TestAbout(t *testing.T) {
	c := chance(5)
	tried := 0
	for range 2000 {
		s := c.sky()
		for i, b := range s.Bodies {
			d := c.time()
			v, up := place(s, i, d), ofVec(api.Vec{}, api.OK)
			if b.Up >= 0 {
				up = place(s, b.Up, d)
			}
			if v.err != api.OK || up.err != api.OK {
				continue
			}
			tried++
			w, _ := own(s, b, d)
			bound := 0x1p-46*sizes(s, i, d) + 0x1p-180
			less := at(v.v.X-up.v.X, v.v.Y-up.v.Y, v.v.Z-up.v.Z)
			check(t, holds(boxOf(less), w, bound), "Place", i, d, "of", s, "is off", b.Up, "by", less, "and not", w)
		}
	}
	check(t, tried > 14000, tried)
}

// P15.4.

func TestOthersAreNotSeen(t *testing.T) {
	c := chance(6)
	tried := 0
	for range 1500 {
		s := c.sky()
		i := c.below(len(s.Bodies))
		d, days := c.time(), c.times()
		v, b := place(s, i, d), placeBox(s, i, days)
		other := s
		other.Light = 1
		other.Bodies = slices.Clone(s.Bodies)
		onWay := make([]bool, len(s.Bodies))
		for k := i; k >= 0; k = s.Bodies[k].Up {
			onWay[k] = true
			other.Bodies[k].Size = c.part()
		}
		for k := range other.Bodies {
			if !onWay[k] {
				tried++
				other.Bodies[k] = c.body(s.Frames, k)
			}
		}
		check(t, place(other, i, d).same(v) && placeBox(other, i, days).same(b), "body", i, "of", s, "and of", other)
		other.Bodies = other.Bodies[:i+1]
		check(t, place(other, i, d).same(v) && placeBox(other, i, days).same(b), "body", i, "the last one, of", s)
	}
	check(t, tried > 5000, tried)
}

// P15.5.

func TestStill(t *testing.T) {
	c := chance(7)
	for range 300 {
		s := c.sky()
		for i := range s.Bodies {
			s.Bodies[i].Kind, s.Bodies[i].At = api.Fixed, c.vector()
		}
		if c.below(2) == 0 { // one that moves, and about which none goes
			s.Bodies = append(s.Bodies[:min(len(s.Bodies), 15)], orbiting(len(s.Bodies)-2, c.orbit()))
		}
		for i, b := range s.Bodies {
			if b.Kind != api.Fixed {
				continue
			}
			start, box := place(s, i, 0), placeBox(s, i, point(0))
			check(t, start.err == api.OK && box.err == api.OK, i, "of", s)
			for range 4 {
				d, days := c.time(), c.times()
				check(t, place(s, i, d).same(start), "Place", i, d, "of", s)
				check(t, placeBox(s, i, days).same(box), "PlaceBox", i, days, "of", s)
			}
		}
	}
}

// Rules 3 and 4: what is handed in is not changed, nor what stands behind it; and twice asked is twice the same.

func sameSky(a, b api.Sky) bool {
	return same(a.Light, b.Light) && slices.Equal(a.Frames, b.Frames) && slices.EqualFunc(a.Bodies, b.Bodies, sameBody)
}

func sameBody(a, b api.Body) bool {
	row := func(x, y [3][]float32) bool {
		return slices.Equal(x[0], y[0]) && slices.Equal(x[1], y[1]) && slices.Equal(x[2], y[2])
	}
	return a.Kind == b.Kind && a.Up == b.Up && same(a.Size, b.Size) && sameVec(a.At, b.At) && a.Orbit == b.Orbit && slices.Equal(a.Waves, b.Waves) &&
		a.Table.From == b.Table.From && a.Table.Step == b.Table.Step && slices.EqualFunc(a.Table.Rows, b.Table.Rows, row) && a.Frame == b.Frame
}

func TestNothingIsChanged(t *testing.T) {
	for k := range 200 {
		c, again := chance(8+k), chance(8+k)
		s, kept := c.sky(), again.sky() // the same ones, in memory of their own
		n := c.below(len(s.Bodies) + 1)
		short := s
		short.Bodies = s.Bodies[:n] // the others stand in its spare room
		for i := range n {
			d, days := c.time(), c.times()
			v, b := place(short, i, d), placeBox(short, i, days)
			check(t, sameSky(s, kept), "changed", s, kept)
			check(t, place(short, i, d).same(v) && placeBox(short, i, days).same(b), "twice", i, d, days, "of", s)
			check(t, place(kept, i, d).same(v) && placeBox(kept, i, days).same(b), "in other memory", i, d, days, "of", s)
		}
	}
}

// P1: each call answers, whatever the bits; nothing beside an error; and only what may be an answer.

func (c *chance) any(x *float64) {
	if c.below(30) == 0 {
		*x = math.Float64frombits(c.bits())
	}
}

func (c *chance) anyWhole(x *int) {
	if c.below(20) == 0 {
		*x = int(c.bits()) >> c.below(64)
	}
}

func (c *chance) anySky() api.Sky {
	s := c.sky()
	c.any(&s.Light)
	for i := range s.Frames {
		c.anyWhole(&s.Frames[i].Up)
		c.any(&s.Frames[i].Rate)
	}
	for i := range s.Bodies {
		b := &s.Bodies[i]
		c.anyWhole(&b.Kind)
		c.anyWhole(&b.Up)
		c.anyWhole(&b.Frame)
		for _, x := range []*float64{&b.Size, &b.At.X, &b.At.Y, &b.At.Z, &b.Orbit.Axis, &b.Orbit.Ecc, &b.Orbit.Rate, &b.Table.From, &b.Table.Step} {
			c.any(x)
		}
	}
	if c.below(2) == 0 { // fewer bodies, so that often enough none is wrong
		s.Bodies = s.Bodies[:1]
	}
	return s
}

func TestAnyBits(t *testing.T) {
	c := chance(9)
	counted := map[api.Errno]int{}
	for range 20000 {
		s := c.anySky()
		i, d, days := c.below(len(s.Bodies)), c.time(), c.times()
		c.anyWhole(&i)
		c.any(&d)
		c.any(&days.Hi)
		err := sky.Check(s)
		v, b := place(s, i, d), placeBox(s, i, days)
		counted[v.err]++
		counted[b.err]++
		check(t, err == api.OK || v.refused(err) && b.refused(err), s, i, d, v, b)
		check(t, v.err == api.OK && vec.Fit(v.v) || v.refused(v.err), "Place", i, d, "of", s, v)
		fit := span.Check(b.b.X) == api.OK && span.Check(b.b.Y) == api.OK && span.Check(b.b.Z) == api.OK
		check(t, b.err == api.OK && fit || b.refused(b.err), "PlaceBox", i, days, "of", s, b)
		if err == api.OK && v.err != api.ErrFit {
			check(t, (v.err == api.ErrArg) == (i < 0 || i >= len(s.Bodies)) && (v.err == api.OK) == (v.err != api.ErrArg && frame.Time(d)), "Place", i, d, "of", s, v)
		}
	}
	check(t, len(counted) == 6, counted)
}
