package frame_test

import (
	"math"
	"slices"
	"testing"

	"orrery/api"
	"orrery/frame"
	"orrery/grain"
)

const (
	least  = 0x1p-200 // the least magnitude above 0 that is fit
	turns  = 0x1p10   // the greatest magnitude of Phase and of Rate
	away   = 0x1p40   // of an Origin's number
	far    = 0x1p60   // of a vector's number
	latest = 0x1p24   // of a time
)

var negZero = math.Copysign(0, -1)

func at(x, y, z float64) api.Vec { return api.Vec{X: x, Y: y, Z: z} }

func to(lo, hi float64) api.Span { return api.Span{Lo: lo, Hi: hi} }

func point(x float64) api.Span { return to(x, x) }

func boxOf(v api.Vec) api.Box { return api.Box{X: point(v.X), Y: point(v.Y), Z: point(v.Z)} }

// same: the same number, noughts only with the same sign.
func same(a, b float64) bool { return math.Float64bits(a) == math.Float64bits(b) }

func sameVec(a, b api.Vec) bool { return same(a.X, b.X) && same(a.Y, b.Y) && same(a.Z, b.Z) }

func sameSpan(a, b api.Span) bool { return same(a.Lo, b.Lo) && same(a.Hi, b.Hi) }

func sameBox(a, b api.Box) bool {
	return sameSpan(a.X, b.X) && sameSpan(a.Y, b.Y) && sameSpan(a.Z, b.Z)
}

// A toldVec and a toldBox are what a call answered.
type (
	toldVec struct {
		v   api.Vec
		err api.Errno
	}
	toldBox struct {
		b   api.Box
		err api.Errno
	}
)

func ofVec(v api.Vec, err api.Errno) toldVec       { return toldVec{v, err} }
func ofBox(b api.Box, err api.Errno) toldBox       { return toldBox{b, err} }
func (a toldVec) is(v api.Vec, err api.Errno) bool { return sameVec(a.v, v) && a.err == err }
func (a toldBox) is(b api.Box, err api.Errno) bool { return sameBox(a.b, b) && a.err == err }
func (a toldVec) same(b toldVec) bool              { return a.is(b.v, b.err) }
func (a toldVec) refused(err api.Errno) bool       { return a.is(api.Vec{}, err) }
func (a toldBox) refused(err api.Errno) bool       { return a.is(api.Box{}, err) }

func check(t *testing.T, ok bool, tell ...any) {
	t.Helper()
	if !ok {
		t.Error(tell...)
	}
}

// A chance answers numbers that depend on nothing but how many were asked for ahead of them.
type chance uint64

func (c *chance) bits() uint64 {
	*c = *c*6364136223846793005 + 1442695040888963407
	return uint64(*c ^ *c>>29)
}

func (c *chance) below(n int) int { return int(c.bits() >> 11 % uint64(n)) }

// part: from 0 on, below 1.
func (c *chance) part() float64 { return float64(c.bits()>>11) / (1 << 53) }

// number: of a magnitude from 2^low on, below 2^high.
func (c *chance) number(low, high int) float64 {
	x := math.Ldexp(1+c.part(), low+c.below(high-low))
	if c.below(3) == 0 { // few digits, so that results may be exact
		x = math.Ldexp(float64(4+c.below(4)), low-2+c.below(high-low))
	}
	if c.below(2) == 0 {
		return -x
	}
	return x
}

// some: a number that is at most greatest: 0, an end, of a few quarters, or another.
func (c *chance) some(greatest float64) float64 {
	switch c.below(8) {
	case 0:
		return 0
	case 1:
		return negZero
	case 2:
		return math.Copysign(greatest, 0.5-float64(c.below(2)))
	case 3:
		return math.Copysign(least, 0.5-float64(c.below(2)))
	case 4:
		return float64(c.below(41)-20) / 4
	case 5:
		return c.number(-200, int(math.Log2(greatest)))
	}
	return c.number(-10, int(math.Log2(greatest)))
}

func (c *chance) time() float64 { return c.some(latest) }

// vector: one whose numbers lie near each other, or far apart, or at the edges.
func (c *chance) vector() api.Vec {
	low := c.below(250) - 200
	high := low + 1 + c.below(6)
	one := func() float64 {
		switch c.below(6) {
		case 0:
			return c.some(0x1p58)
		case 1:
			return c.number(-200, 57)
		}
		return c.number(low, high)
	}
	return at(one(), one(), one())
}

func (c *chance) frame(i int) api.Frame {
	up := i - 1 // more often than not, for long ways
	if c.below(3) == 0 {
		up = c.below(i+1) - 1
	}
	return api.Frame{
		Up: up, Axis: c.below(3), Phase: c.some(turns), Rate: c.some(turns),
		Origin: at(c.some(away), c.some(away), c.some(away)),
	}
}

func (c *chance) frames() []api.Frame {
	var l []api.Frame
	for i := range c.below(api.MaxFrames + 1) {
		l = append(l, c.frame(i))
	}
	return l
}

// one: the number of a frame, or the root's.
func (c *chance) one(l []api.Frame) int { return c.below(len(l)+1) - 1 }

// The chapter's examples.

func wheel() []api.Frame { return []api.Frame{{Up: -1, Axis: 2, Rate: 1, Origin: at(10, 0, 0)}} }

func TestExamples(t *testing.T) {
	l := wheel()
	got := ofVec(frame.Root(l, 0, 0.25, at(1, 0, 0)))
	check(t, got.is(at(10, 1, 0), api.OK), "Root", got)
	got = ofVec(frame.Into(l, 0, 0.25, at(10, 1, 0)))
	check(t, got.is(at(1, 0, 0), api.OK), "Into", got)
	box := ofBox(frame.RootBox(l, 0, to(0, 1), boxOf(at(1, 0, 0))))
	check(t, box.is(api.Box{X: to(9, 11), Y: to(-1, 1)}, api.OK), "RootBox", box)
	check(t, frame.Check([]api.Frame{{Up: 0}}) == api.ErrFrame, "a frame in itself")
	check(t, ofVec(frame.Root(l, 1, 0, at(0, 0, 0))).refused(api.ErrArg), "frame 1 of one")
	check(t, ofVec(frame.Root(l, 0, 0x1p25, at(0, 0, 0))).refused(api.ErrDate), "at 2^25 days")
}

// P10.1: what is taken.

// unfit: numbers that are never taken.
func unfit() []float64 {
	return []float64{
		math.NaN(), math.Float64frombits(0xfff0000000000123), math.Inf(1), math.Inf(-1), math.SmallestNonzeroFloat64,
		grain.Prev(least), -grain.Prev(least), 0x1p-1000, grain.Next(0x1p200), math.MaxFloat64, -math.MaxFloat64,
	}
}

// beyond: unfit numbers, and those above a greatest magnitude.
func beyond(greatest float64) []float64 {
	next := grain.Next(greatest)
	return append(unfit(), next, -next, 2*greatest, -2*greatest, 0x1p200, -0x1p200)
}

// upTo: numbers that are taken up to a greatest magnitude.
func upTo(greatest float64) []float64 {
	l := []float64{0, negZero, least, -least, 0.1, -1}
	return append(l, greatest, -greatest, grain.Prev(greatest), -grain.Prev(greatest))
}

// withTurns, withOrigin: frames that differ from a good one in one number alone.
func withTurns(x float64) []api.Frame {
	return []api.Frame{{Up: -1, Phase: x}, {Up: -1, Rate: x}}
}

func withOrigin(x float64) []api.Frame {
	return []api.Frame{{Up: -1, Origin: at(x, 0, 0)}, {Up: -1, Origin: at(0, x, 0)}, {Up: -1, Origin: at(0, 0, x)}}
}

func TestFramesThatMayBe(t *testing.T) {
	var good, bad []api.Frame
	for _, x := range upTo(turns) {
		good = append(good, withTurns(x)...)
	}
	for _, x := range upTo(away) {
		good = append(good, withOrigin(x)...)
	}
	for _, x := range beyond(turns) {
		bad = append(bad, withTurns(x)...)
	}
	for _, x := range beyond(away) {
		bad = append(bad, withOrigin(x)...)
	}
	for axis := range 3 {
		good = append(good, api.Frame{Up: -1, Axis: axis})
	}
	for _, axis := range []int{-1, 3, 4, math.MinInt, math.MaxInt} {
		bad = append(bad, api.Frame{Up: -1, Axis: axis})
	}
	for _, up := range []int{-2, 16, 17, math.MinInt, math.MaxInt} {
		bad = append(bad, api.Frame{Up: up})
	}
	plain := slices.Repeat([]api.Frame{{Up: -1}}, api.MaxFrames)
	for i := range plain {
		for _, f := range good {
			l := slices.Clone(plain)
			l[i] = f
			check(t, frame.Check(l) == api.OK, i, f)
		}
		for _, f := range bad {
			l := slices.Clone(plain)
			l[i] = f
			check(t, frame.Check(l) == api.ErrFrame && frame.Check(l[:i]) == api.OK && frame.Check(l[:i+1]) == api.ErrFrame, i, f)
		}
		for up := range len(plain) {
			l := slices.Clone(plain)
			l[i].Up = up
			check(t, (frame.Check(l) == api.OK) == (up < i), i, "in", up, frame.Check(l))
		}
	}
}

func TestLongLists(t *testing.T) {
	l := slices.Repeat([]api.Frame{{Up: -1}}, 2*api.MaxFrames)
	for i := range len(l) + 1 {
		want := api.OK
		if i > 16 {
			want = api.ErrLong
		}
		check(t, frame.Check(l[:i]) == want, i)
	}
	check(t, frame.Check(nil) == api.OK, "of none")
	l[0].Axis = 3
	check(t, frame.Check(l[:17]) == api.ErrLong, "ahead of a frame that may not be")
	check(t, frame.Check(l[:16]) == api.ErrFrame, "not too long")
}

func TestTimes(t *testing.T) {
	good, bad := append(upTo(latest), 16777215.5), beyond(latest)
	for _, d := range good {
		check(t, frame.Time(d), d)
		for _, e := range good {
			check(t, frame.Times(to(d, e)) == (d <= e), d, e)
		}
		for _, e := range bad {
			check(t, !frame.Times(to(d, e)) && !frame.Times(to(e, d)), d, e)
		}
	}
	for _, d := range bad {
		check(t, !frame.Time(d) && !frame.Times(point(d)), d)
	}
	check(t, frame.Times(to(-latest, latest)) && frame.Times(to(0, negZero)) && !frame.Times(to(latest, -latest)))
}

// P10.1: the order of the errors.

// A trial is a call's arguments, each with the error that it makes if nothing ahead of it does.
type trial struct {
	l                            []api.Frame
	i, to                        int
	d                            float64
	v                            api.Vec
	frames, from, time, into, of api.Errno
}

// first: the error that is told first.
func first(l ...api.Errno) api.Errno {
	for _, err := range l {
		if err != api.OK {
			return err
		}
	}
	return api.OK
}

func trials() []trial {
	good := []api.Frame{{Up: -1, Phase: 0.25}, {Up: 0, Rate: 1}}
	bad := []api.Frame{{Up: -1}, {Up: 1}}
	long := slices.Repeat(bad, 9)
	all := []trial{{l: good}, {l: bad, frames: api.ErrFrame}, {l: long, frames: api.ErrLong}}
	all = each(all, func(a trial, add func(trial)) {
		for _, i := range []int{-1, 0, 1, -2, len(a.l), math.MinInt, math.MaxInt} {
			for _, k := range []int{-1, 1, -2, len(a.l), math.MinInt, math.MaxInt} {
				b := a
				b.i, b.from, b.to, b.into = i, ofNumber(a.l, i), k, ofNumber(a.l, k)
				add(b)
			}
		}
	})
	all = each(all, func(a trial, add func(trial)) {
		for _, d := range []float64{latest, grain.Next(latest), math.NaN()} {
			b := a
			if b.d = d; d != latest {
				b.time = api.ErrDate
			}
			add(b)
		}
	})
	return each(all, func(a trial, add func(trial)) {
		a.v = at(1, 2, 3)
		add(a)
		a.of = api.ErrFit
		for _, x := range []float64{math.NaN(), grain.Next(far), math.Inf(-1), -0x1p-201} {
			for _, v := range []api.Vec{at(x, 0, 0), at(0, x, 0), at(0, 0, x)} {
				a.v = v
				add(a)
			}
		}
	})
}

func each(l []trial, do func(a trial, add func(trial))) []trial {
	var all []trial
	for _, a := range l {
		do(a, func(b trial) { all = append(all, b) })
	}
	return all
}

func ofNumber(l []api.Frame, i int) api.Errno {
	if i < -1 || i >= len(l) {
		return api.ErrArg
	}
	return api.OK
}

func TestErrorsInTheirOrder(t *testing.T) {
	counted := map[api.Errno]int{}
	for _, a := range trials() {
		want := first(a.frames, a.from, a.time, a.of)
		counted[want]++
		got := ofVec(frame.Root(a.l, a.i, a.d, a.v))
		check(t, got.err == want && (want == api.OK || got.refused(want)), "Root", a, got)
		got = ofVec(frame.Into(a.l, a.i, a.d, a.v))
		check(t, got.err == want && (want == api.OK || got.refused(want)), "Into", a, got)
		box := ofBox(frame.RootBox(a.l, a.i, to(-1, a.d), boxOf(a.v)))
		check(t, box.err == want && (want == api.OK || box.refused(want)), "RootBox", a, box)
		want = first(a.frames, a.from, a.time, a.into, a.of)
		got = ofVec(frame.Change(a.l, a.i, a.to, a.d, a.v))
		check(t, got.err == want && (want == api.OK || got.refused(want)), "Change", a, got)
	}
	check(t, len(counted) == 6, counted)
}

func TestTimesAndVectorsThatMayNotBe(t *testing.T) {
	l, v := wheel(), at(1, 0, 0)
	for _, i := range []int{-1, 0} {
		for _, d := range beyond(latest) {
			check(t, ofVec(frame.Root(l, i, d, v)).refused(api.ErrDate), "Root", d)
			check(t, ofVec(frame.Into(l, i, d, v)).refused(api.ErrDate), "Into", d)
			check(t, ofVec(frame.Change(l, -1, i, d, v)).refused(api.ErrDate), "Change", d)
			for _, s := range []api.Span{to(d, 0), to(0, d), point(d), to(1, 0)} {
				check(t, ofBox(frame.RootBox(l, i, s, boxOf(v))).refused(api.ErrDate), "RootBox", s)
			}
		}
		for _, x := range beyond(far) {
			for _, v := range []api.Vec{at(x, 0, 0), at(0, x, 0), at(0, 0, x)} {
				check(t, ofVec(frame.Root(l, i, 0, v)).refused(api.ErrFit), "Root", v)
				check(t, ofVec(frame.Into(l, i, 0, v)).refused(api.ErrFit), "Into", v)
				check(t, ofVec(frame.Change(l, i, i, 0, v)).refused(api.ErrFit), "Change", v)
			}
			for _, s := range []api.Span{to(x, 0), to(0, x), point(x), to(1, 0), to(0, -least)} {
				for _, b := range []api.Box{{X: s}, {Y: s}, {Z: s}} {
					check(t, ofBox(frame.RootBox(l, i, to(0, 1), b)).refused(api.ErrFit), "RootBox", b)
				}
			}
		}
	}
}
