package frame_test

import (
	"math/big"
	"slices"
	"testing"

	"orrery/api"
	"orrery/frame"
	"orrery/grain"
	"orrery/span"
	"orrery/vec"
)

// The chapter's words once more, a frame on the way at a time, the root's frame last.

// wantAngle: by big's numbers, wide enough for the product and the sum, each rounded once.
func wantAngle(f api.Frame, d float64) float64 {
	wide := func(x float64) *big.Float { return new(big.Float).SetPrec(2000).SetFloat64(x) }
	product, _ := wide(0).Mul(wide(f.Rate), wide(d)).Float64()
	a, _ := wide(0).Add(wide(f.Phase), wide(product)).Float64()
	if -least < a && a < least {
		return 0
	}
	return a
}

func wantUp(f api.Frame, d float64, v toldVec) toldVec {
	if v.err != api.OK {
		return v
	}
	m, err := vec.Turned(f.Axis, wantAngle(f, d))
	if err != api.OK {
		return ofVec(api.Vec{}, err)
	}
	w, err := vec.Apply(m, v.v)
	if err != api.OK {
		return ofVec(api.Vec{}, err)
	}
	return ofVec(vec.Add(f.Origin, w))
}

func wantDown(f api.Frame, d float64, v toldVec) toldVec {
	if v.err != api.OK {
		return v
	}
	w, err := vec.Sub(v.v, f.Origin)
	if err != api.OK {
		return ofVec(api.Vec{}, err)
	}
	m, _ := vec.Turned(f.Axis, wantAngle(f, d))
	back, err := vec.Flip(m)
	if err != api.OK {
		return ofVec(api.Vec{}, err)
	}
	return ofVec(vec.Apply(back, w))
}

// unsigned: v with +0 for noughts.
func unsigned(v api.Vec) api.Vec { return at(v.X+0, v.Y+0, v.Z+0) }

func wantRoot(l []api.Frame, i int, d float64, v toldVec) toldVec {
	if i == -1 || v.err != api.OK {
		return v
	}
	return wantRoot(l, l[i].Up, d, wantUp(l[i], d, v))
}

func wantInto(l []api.Frame, i int, d float64, v toldVec) toldVec {
	if i == -1 || v.err != api.OK {
		return v
	}
	return wantDown(l[i], d, wantInto(l, l[i].Up, d, v))
}

func TestWaysByTheChaptersWords(t *testing.T) {
	c := chance(1)
	fine, refused := 0, 0
	for range 3000 {
		l := c.frames()
		for range 8 {
			i, k, d, v := c.one(l), c.one(l), c.time(), c.vector()
			want := wantRoot(l, i, d, ofVec(unsigned(v), api.OK))
			got := ofVec(frame.Root(l, i, d, v))
			check(t, got.same(want), "Root", l, i, d, v, got, want)
			want = wantInto(l, k, d, want)
			got = ofVec(frame.Change(l, i, k, d, v))
			check(t, got.same(want), "Change", l, i, k, d, v, got, want)
			want = wantInto(l, i, d, ofVec(unsigned(v), api.OK))
			got = ofVec(frame.Into(l, i, d, v))
			check(t, got.same(want), "Into", l, i, d, v, got, want)
			if got.err == api.OK {
				fine++
			} else {
				refused++
			}
		}
	}
	check(t, fine > 10000, fine, refused)
}

func TestWaysWorkedOut(t *testing.T) {
	l := []api.Frame{
		{Up: -1, Axis: 0, Phase: 0.25, Origin: at(1, 2, 3)},         // y to z, z to -y
		{Up: 0, Axis: 1, Rate: 0.25, Origin: at(10, 20, 30)},        // at day 1: z to x, x to -z
		{Up: 0, Axis: 2, Phase: 0.5, Rate: -1, Origin: at(0, 0, 7)}, // at day 1: x to -x, y to -y
		{Up: 1, Axis: 2, Phase: 1, Rate: 0.25, Origin: at(-1, 0, 0)},
		{Up: -1, Axis: 1, Phase: -0.25, Rate: 0.5, Origin: at(0, 5, 0)}, // at day 1: z to x, x to -z
	}
	v := at(1, 10, 100)
	for _, c := range []struct {
		i    int
		want api.Vec
	}{
		{-1, v},
		{0, at(2, -98, 13)},
		{1, at(111, 2-29, 33)}, // in 0: (110, 30, 29)
		{2, at(0, 2-107, -7)},  // in 0: (-1, -10, 107)
		{3, at(111, -39, 24)},  // in 1: (-11, 1, 100); in 0: (110, 21, 41)
		{4, at(100, 15, -1)},
	} {
		got := ofVec(frame.Root(l, c.i, 1, v))
		check(t, got.is(c.want, api.OK), "Root", c.i, got, "not", c.want)
		got = ofVec(frame.Into(l, c.i, 1, c.want))
		check(t, got.is(v, api.OK), "Into", c.i, got)
		for k := range l {
			there, _ := frame.Root(l, k, 1, at(3, 4, 5))
			got = ofVec(frame.Change(l, k, c.i, 1, at(3, 4, 5)))
			check(t, got.same(ofVec(frame.Into(l, c.i, 1, there))) && got.err == api.OK, "Change", k, c.i, got)
		}
	}
	got := ofVec(frame.Change(l, 3, 2, 1, v)) // (110, 21, 41) less (0, 0, 7), turned by half
	check(t, got.is(at(-110, -21, 34), api.OK), "Change", got)
}

// Of an angle that isn't fit: it is 0, and what is rounded away is.
func TestSmallAngles(t *testing.T) {
	v := at(3, 4, 5)
	for axis := range 3 {
		for _, f := range []api.Frame{
			{Rate: least},
			{Rate: -least},
			{Phase: least, Rate: grain.Next(-0x1p-190)}, // at 2^-10: 2^-252 above 0
			{Phase: -least, Rate: 0x1p-190},
		} {
			f.Up, f.Axis, f.Origin = -1, axis, at(10, 20, 30)
			l := []api.Frame{f}
			for _, d := range []float64{0x1p-10, -0x1p-10, least, 0} {
				a := f.Phase + float64(f.Rate*d)
				if grain.Fit(a) && a != 0 {
					continue
				}
				got := ofVec(frame.Root(l, 0, d, v))
				check(t, got.is(at(13, 24, 35), api.OK), "Root", f, d, got)
				got = ofVec(frame.Into(l, 0, d, at(13, 24, 35)))
				check(t, got.is(v, api.OK), "Into", f, d, got)
			}
		}
	}
	l := []api.Frame{{Up: -1, Axis: 2, Rate: 0x1p-190}} // 2^-200 is fit: a turn by so little
	got := ofVec(frame.Root(l, 0, 0x1p-10, at(1, 0, 0)))
	check(t, got.v.Y > 0 && got.v.X == 1 && got.err == api.OK, got)
	got = ofVec(frame.Root(l, 0, grain.Prev(0x1p-10), at(1, 0, 0)))
	check(t, got.is(at(1, 0, 0), api.OK), got)
}

// The product is rounded ahead of the sum: of numbers of which a fused sum would be another.
func TestNothingIsFused(t *testing.T) {
	rate, d := 1+0x1p-30, 1+0x1p-30 // the product is 1 + 2^-29 + 2^-60: rounded, without the last
	l := []api.Frame{{Up: -1, Axis: 2, Phase: -1 - 0x1p-29, Rate: rate}}
	got := ofVec(frame.Root(l, 0, d, at(0x1p30, 0, 0)))
	check(t, got.is(at(0x1p30, 0, 0), api.OK), got)
}

func TestTooGreatOnTheWay(t *testing.T) {
	eighth := api.Frame{Up: -1, Axis: 2, Phase: 0.125}
	back := api.Frame{Up: 0, Axis: 2, Phase: -0.125}
	away := api.Frame{Up: -1, Origin: at(0x1p40, 0, 0)}
	near := api.Frame{Up: 0, Origin: at(-0x1p40, 0, 0)}
	corner := at(far, far, 0)
	for _, c := range []struct {
		l    []api.Frame
		i    int
		v    api.Vec
		root api.Errno
		into api.Errno
	}{
		{[]api.Frame{eighth}, 0, corner, api.ErrFit, api.ErrFit},
		{[]api.Frame{eighth}, -1, corner, api.OK, api.OK},
		{[]api.Frame{eighth, back}, 1, corner, api.ErrFit, api.ErrFit}, // both ways
		{[]api.Frame{away}, 0, at(far, 0, 0), api.ErrFit, api.OK},
		{[]api.Frame{away}, 0, at(-far, 0, 0), api.OK, api.ErrFit},
		{[]api.Frame{away, near}, 1, at(far, 0, 0), api.OK, api.OK},
		{[]api.Frame{away, near}, 1, at(-far, 0, 0), api.ErrFit, api.ErrFit},
		{[]api.Frame{away, near}, 0, at(0, -far, far), api.OK, api.OK},
	} {
		got := ofVec(frame.Root(c.l, c.i, 0, c.v))
		check(t, got.err == c.root && (c.root == api.OK || got.refused(c.root)), "Root", c, got)
		got = ofVec(frame.Into(c.l, c.i, 0, c.v))
		check(t, got.err == c.into && (c.into == api.OK || got.refused(c.into)), "Into", c, got)
	}
	l := []api.Frame{eighth, {Up: -1}}
	check(t, ofVec(frame.Change(l, 0, 1, 0, corner)).refused(api.ErrFit), "Change from")
	check(t, ofVec(frame.Change(l, 1, 0, 0, corner)).refused(api.ErrFit), "Change to")
	check(t, ofVec(frame.Change(l, 0, 0, 0, corner)).refused(api.ErrFit), "Change from and to")
	check(t, ofVec(frame.Change(l, 1, -1, 0, corner)).is(corner, api.OK), "Change by no turn")
}

// Boxes.

func wantBox(l []api.Frame, i int, t api.Span, b toldBox) toldBox {
	if i == -1 || b.err != api.OK {
		return b
	}
	f := l[i]
	turned, _ := span.Mul(point(f.Rate), t)
	a, _ := span.Add(point(f.Phase), turned)
	w, err := vec.BoxTurn(f.Axis, a, b.b)
	if err != api.OK {
		return ofBox(api.Box{}, err)
	}
	return wantBox(l, f.Up, t, ofBox(vec.BoxAdd(boxOf(f.Origin), w)))
}

// times: a span of times: one time, two that are near each other, or any.
func (c *chance) times() api.Span {
	a, b := c.time(), c.time()
	switch c.below(4) {
	case 0:
		return point(a)
	case 1:
		b = min(max(a+c.number(-20, 2), -latest), latest)
	case 2:
		a, b = c.part(), c.part()
	}
	return to(min(a, b), max(a, b))
}

func (c *chance) box() api.Box {
	a, b := c.vector(), c.vector()
	if c.below(3) == 0 {
		b = a
	}
	return api.Box{X: to(min(a.X, b.X), max(a.X, b.X)), Y: to(min(a.Y, b.Y), max(a.Y, b.Y)), Z: to(min(a.Z, b.Z), max(a.Z, b.Z))}
}

func unsignedBox(b api.Box) api.Box {
	return api.Box{X: to(b.X.Lo+0, b.X.Hi+0), Y: to(b.Y.Lo+0, b.Y.Hi+0), Z: to(b.Z.Lo+0, b.Z.Hi+0)}
}

func TestBoxesByTheChaptersWords(t *testing.T) {
	c := chance(2)
	fine, refused := 0, 0
	for range 2000 {
		l := c.frames()
		for range 5 {
			i, s, b := c.one(l), c.times(), c.box()
			want := wantBox(l, i, s, ofBox(unsignedBox(b), api.OK))
			got := ofBox(frame.RootBox(l, i, s, b))
			check(t, got.is(want.b, want.err), "RootBox", l, i, s, b, got, want)
			if got.err == api.OK {
				fine++
			} else {
				refused++
			}
		}
	}
	check(t, fine > 5000 && refused > 10, fine, refused)
}

func TestBoxesWorkedOut(t *testing.T) {
	l := []api.Frame{
		{Up: -1, Axis: 2, Rate: 0.5, Origin: at(1, 2, 3)},
		{Up: 0, Axis: 0, Phase: 0.25, Origin: at(10, 0, 0)},
	}
	b := api.Box{X: to(1, 2), Y: to(3, 4), Z: to(5, 6)}
	for _, c := range []struct {
		i    int
		t    api.Span
		want api.Box
	}{
		{-1, to(-1, 1), b},
		{0, point(0), api.Box{X: to(2, 3), Y: to(5, 6), Z: to(8, 9)}},
		{0, point(1), api.Box{X: to(-1, 0), Y: to(-2, -1), Z: to(8, 9)}},
		{0, to(-1, 1), api.Box{X: to(-5, 7), Y: to(-4, 8), Z: to(8, 9)}},
		{1, point(0), api.Box{X: to(12, 13), Y: to(-4, -3), Z: to(6, 7)}},
		{1, to(0, 2), api.Box{X: to(-17, 19), Y: to(-16, 20), Z: to(6, 7)}}, // in 0: x 11 to 12, y -6 to -5, z 3 to 4
	} {
		got := ofBox(frame.RootBox(l, c.i, c.t, b))
		check(t, got.err == api.OK && vec.BoxInside(c.want, got.b) && nearBox(got.b, c.want), c.i, c.t, got, "not", c.want)
	}
}

// nearBox: do the ends differ by no more than what the spans of sines leave?
func nearBox(a, b api.Box) bool {
	near := func(x, y api.Span) bool {
		return max(x.Lo-y.Lo, y.Lo-x.Lo, x.Hi-y.Hi, y.Hi-x.Hi) < 0x1p-47
	}
	return near(a.X, b.X) && near(a.Y, b.Y) && near(a.Z, b.Z)
}

func TestBoxesTooGreatOnTheWay(t *testing.T) {
	corner := boxOf(at(far, far, 0))
	eighth := []api.Frame{{Up: -1, Axis: 2, Phase: 0.125}}
	check(t, ofBox(frame.RootBox(eighth, 0, point(0), corner)).refused(api.ErrFit), "turned")
	check(t, ofBox(frame.RootBox(eighth, -1, point(0), corner)).is(corner, api.OK), "the root's")
	l := []api.Frame{{Up: -1}, {Up: 0, Origin: at(0x1p40, 0, 0)}}
	check(t, ofBox(frame.RootBox(l, 1, point(0), boxOf(at(far, 0, 0)))).refused(api.ErrFit), "moved, then turned")
}

// Noughts are +0, whatever their signs are in what is handed in.
func TestNoughts(t *testing.T) {
	for _, l := range [][]api.Frame{
		nil,
		{{Up: -1, Axis: 1, Phase: negZero, Rate: negZero, Origin: at(negZero, negZero, negZero)}},
		{{Up: -1, Axis: 2, Phase: 0.5, Origin: at(negZero, 0, 0)}, {Up: 0, Phase: -0.25}},
	} {
		for i := -1; i < len(l); i++ {
			v := at(negZero, negZero, negZero)
			for _, d := range []float64{0, negZero, -1} {
				check(t, ofVec(frame.Root(l, i, d, v)).is(api.Vec{}, api.OK), "Root", l, i, d)
				check(t, ofVec(frame.Into(l, i, d, v)).is(api.Vec{}, api.OK), "Into", l, i, d)
				check(t, ofVec(frame.Change(l, i, i, d, v)).is(api.Vec{}, api.OK), "Change", l, i, d)
				check(t, ofBox(frame.RootBox(l, i, point(d), boxOf(v))).is(api.Box{}, api.OK), "RootBox", l, i, d)
			}
		}
	}
}

// What is handed in is neither changed nor kept, its spare room neither; frames off the way have no say.
func TestHandedIn(t *testing.T) {
	c := chance(3)
	for range 300 {
		l := c.frames()
		spare := append(l, api.Frame{Axis: 7}, api.Frame{Axis: 8})
		old := slices.Clone(spare)
		i, d, v, s, b := c.one(l), c.time(), c.vector(), c.times(), c.box()
		root, into, box := ofVec(frame.Root(l, i, d, v)), ofVec(frame.Into(l, i, d, v)), ofBox(frame.RootBox(l, i, s, b))
		frame.Change(l, i, c.one(l), d, v)
		frame.Check(l)
		check(t, slices.Equal(spare, old), "changed", old, spare)
		on := map[int]bool{}
		for k := i; k >= 0; k = l[k].Up {
			on[k] = true
		}
		for k := range l {
			if !on[k] {
				l[k].Axis, l[k].Phase, l[k].Origin = (l[k].Axis+1)%3, 0.3, at(1, 2, 3)
			}
		}
		check(t, root.same(ofVec(frame.Root(l, i, d, v))), "Root", l, i)
		check(t, into.same(ofVec(frame.Into(l, i, d, v))), "Into", l, i)
		check(t, box.is(frame.RootBox(l, i, s, b)), "RootBox", l, i)
	}
}
