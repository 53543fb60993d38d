package vec_test

import (
	"math"
	"testing"

	"orrery/api"
	"orrery/grain"
	"orrery/span"
	"orrery/turn"
	"orrery/vec"
)

func to(lo, hi float64) api.Span { return api.Span{Lo: lo, Hi: hi} }

func point(x float64) api.Span { return to(x, x) }

func boxOf(v api.Vec) api.Box { return api.Box{X: point(v.X), Y: point(v.Y), Z: point(v.Z)} }

func sameSpan(a, b api.Span) bool { return same(a.Lo, b.Lo) && same(a.Hi, b.Hi) }

func sameBox(a, b api.Box) bool {
	return sameSpan(a.X, b.X) && sameSpan(a.Y, b.Y) && sameSpan(a.Z, b.Z)
}

// A toldSpan and a toldBox are what a call answered.
type (
	toldSpan struct {
		s   api.Span
		err api.Errno
	}
	toldBox struct {
		b   api.Box
		err api.Errno
	}
)

func ofSpan(s api.Span, err api.Errno) toldSpan      { return toldSpan{s, err} }
func ofBox(b api.Box, err api.Errno) toldBox         { return toldBox{b, err} }
func (a toldSpan) is(s api.Span, err api.Errno) bool { return sameSpan(a.s, s) && a.err == err }
func (a toldBox) is(b api.Box, err api.Errno) bool   { return sameBox(a.b, b) && a.err == err }

// span: of numbers up to the greatest: wide, narrow, or of one number.
func (c *chance) span(low, high int) api.Span {
	x, y := c.number(low, high), c.number(low, high)
	if c.below(5) == 0 {
		x = c.edge()
	}
	switch c.below(4) {
	case 0:
		return point(x)
	case 1:
		if z := grain.Next(x); grain.Fit(z) && z <= greatest {
			return to(x, z)
		}
		return point(x)
	}
	return to(min(x, y), max(x, y))
}

// box: one whose ends lie near each other, or far apart, or at the edges.
func (c *chance) box() api.Box {
	low, high := -200, 60
	if c.below(3) > 0 {
		low = c.below(250) - 200
		high = low + 1 + c.below(6)
	}
	return api.Box{X: c.span(low, high), Y: c.span(low, high), Z: c.span(low, high)}
}

// boxes: the edges as boxes, boxes between edges, and many others.
func boxes() []api.Box {
	var l []api.Box
	for _, v := range edges() {
		l = append(l, boxOf(v))
	}
	some := []api.Span{{}, to(negZero, negZero), to(0, negZero), to(-greatest, greatest), to(0, greatest), to(-least, least), to(-1, 2), to(3, 3), to(least, 4)}
	for _, x := range some {
		for _, y := range some {
			l = append(l, api.Box{X: x, Y: y, Z: to(-2, 0.1)}, api.Box{X: to(5, 6), Y: x, Z: y}, api.Box{X: y, Z: x})
		}
	}
	c := chance(21)
	for range 1500 {
		l = append(l, c.box())
	}
	return l
}

// The chapter's words once more. A sure is a span of which the call that made it told no error.
type sure struct {
	t *testing.T
	api.Span
}

func (a sure) of(s api.Span, err api.Errno) sure {
	a.t.Helper()
	if err != api.OK {
		a.t.Fatalf("of %v: %v", a.Span, err)
	}
	return sure{a.t, s}
}

func (a sure) add(b sure) sure { return a.of(span.Add(a.Span, b.Span)) }
func (a sure) sub(b sure) sure { return a.of(span.Sub(a.Span, b.Span)) }
func (a sure) mul(b sure) sure { return a.of(span.Mul(a.Span, b.Span)) }
func (a sure) square() sure    { return a.of(span.Square(a.Span)) }
func (a sure) root() sure      { return a.of(span.Root(a.Span)) }

func three(t *testing.T, b api.Box) (x, y, z sure) { return sure{t, b.X}, sure{t, b.Y}, sure{t, b.Z} }

func box(x, y, z sure) api.Box { return api.Box{X: x.Span, Y: y.Span, Z: z.Span} }

func TestBoxesByTheChaptersWords(t *testing.T) {
	s := chance(22)
	l := boxes()
	for _, a := range l {
		ax, ay, az := three(t, a)
		for _, b := range []api.Box{a, s.box(), l[s.below(len(l))], l[s.below(len(l))]} {
			bx, by, bz := three(t, b)
			got := ofBox(vec.BoxAdd(a, b))
			check(t, got.is(box(ax.add(bx), ay.add(by), az.add(bz)), api.OK), "BoxAdd", a, b, got)
			got = ofBox(vec.BoxSub(a, b))
			check(t, got.is(box(ax.sub(bx), ay.sub(by), az.sub(bz)), api.OK), "BoxSub", a, b, got)
			dot := ofSpan(vec.BoxDot(a, b))
			check(t, dot.is(ax.mul(bx).add(ay.mul(by)).add(az.mul(bz)).Span, api.OK), "BoxDot", a, b, dot)
		}
		long := ax.square().add(ay.square()).add(az.square())
		got := ofSpan(vec.BoxLong(a))
		check(t, got.is(long.Span, api.OK), "BoxLong", a, got)
		got = ofSpan(vec.BoxNorm(a))
		check(t, got.is(long.root().Span, api.OK), "BoxNorm", a, got)
	}
}

// wantShare: a divided by n, as far as it lies from -1 to 1.
func wantShare(t *testing.T, a, n api.Span) api.Span {
	q, err := span.Div(a, n)
	if err != api.OK {
		return to(-1, 1)
	}
	s, ok, err := span.Meet(q, to(-1, 1))
	check(t, ok && err == api.OK, "of", a, n, "nothing is left:", q, err)
	return s
}

func TestBoxUnitByTheChaptersWords(t *testing.T) {
	some, none := 0, 0
	for _, a := range boxes() {
		got := ofBox(vec.BoxUnit(a))
		n, _ := vec.BoxNorm(a)
		if n.Lo <= 0 {
			none++
			check(t, got.is(api.Box{}, api.ErrZero), "BoxUnit", a, got)
			continue
		}
		some++
		check(t, got.is(api.Box{X: wantShare(t, a.X, n), Y: wantShare(t, a.Y, n), Z: wantShare(t, a.Z, n)}, api.OK), "BoxUnit", a, got)
	}
	check(t, some > 1000 && none > 100, some, none)
}

func TestBoxUnitWorkedOut(t *testing.T) {
	for _, c := range []struct{ a, want api.Box }{
		{boxOf(at(3, 4, 0)), api.Box{X: to(0.6, grain.Next(0.6)), Y: to(grain.Prev(0.8), 0.8)}},
		{boxOf(at(0, negZero, -8)), boxOf(at(0, 0, -1))},
		{boxOf(at(greatest, 0, 0)), boxOf(at(1, 0, 0))},
		{boxOf(at(0x1p-100, 0, 0)), boxOf(at(1, 0, 0))}, // its square is just fit
		{api.Box{X: to(1, 2), Y: to(-1, 1)}, api.Box{X: to(0x1.c9f25c5bfedd8p-2, 1), Y: to(-1, 1)}},
		{api.Box{X: to(0x1p-100, greatest)}, api.Box{X: to(0x1p-160, 1)}},
		{api.Box{X: to(0x1p-100, 0x1p60), Y: to(-0x1p60, 0x1p60), Z: to(0, 1)}, api.Box{X: to(0x1.6a09e667f3bcbp-161, 1), Y: to(-1, 1), Z: to(0, 1)}},
	} {
		got := ofBox(vec.BoxUnit(c.a))
		check(t, got.is(c.want, api.OK), "BoxUnit", c.a, got)
	}
	for _, b := range []api.Box{{}, boxOf(at(negZero, 0, negZero)), {X: to(-1, 1)}, {X: to(0, 1), Y: to(-1, 0), Z: to(-greatest, greatest)}, boxOf(at(grain.Prev(0x1p-100), 0, 0)), boxOf(at(least, least, least))} {
		got := ofBox(vec.BoxUnit(b))
		check(t, got.is(api.Box{}, api.ErrZero), "BoxUnit", b, got)
	}
}

// turnSpans: spans of turns: of one number, within a quarter, over several, over all.
func turnSpans() []api.Span {
	l := []api.Span{{}, to(0, 1), to(-1, 0), to(0, 0.25), to(-0x1p40, 0x1p40), point(0x1p40), to(0.1, 0.3), to(-least, least)}
	c := chance(23)
	for _, x := range turns() {
		l = append(l, point(x))
		for _, w := range []float64{0x1p-30, 0.2, c.part()} {
			if y := x + w; y <= 0x1p40 && grain.Fit(y) {
				l = append(l, to(x, y))
			}
		}
	}
	return l
}

func TestBoxTurnByTheChaptersWords(t *testing.T) {
	r := chance(24)
	l := boxes()
	for _, turned := range turnSpans() {
		b := l[r.below(len(l))]
		x, y, z := three(t, b)
		sine, cosine, err := turn.Spans(turned)
		check(t, err == api.OK, turned, err)
		s, c := sure{t, sine}, sure{t, cosine}
		still := sure{t, to(0, 0)}
		for axis, want := range []api.Box{
			box(x.add(still), c.mul(y).sub(s.mul(z)), s.mul(y).add(c.mul(z))),
			box(s.mul(z).add(c.mul(x)), y.add(still), c.mul(z).sub(s.mul(x))),
			box(c.mul(x).sub(s.mul(y)), s.mul(x).add(c.mul(y)), z.add(still)),
		} {
			got := ofBox(vec.BoxTurn(axis, turned, b))
			check(t, got.is(want, api.OK), "BoxTurn", axis, turned, b, got)
		}
	}
}

func TestBoxTurnWorkedOut(t *testing.T) {
	b := api.Box{X: to(1, 2), Y: to(10, 20), Z: to(100, 200)}
	up := func(s api.Span) api.Span { return to(-s.Hi, -s.Lo) }
	for axis, want := range []api.Box{
		{X: b.X, Y: up(b.Z), Z: b.Y},
		{X: b.Z, Y: b.Y, Z: up(b.X)},
		{X: up(b.Y), Y: b.X, Z: b.Z},
	} {
		got := ofBox(vec.BoxTurn(axis, point(0), b))
		check(t, got.err == api.OK && vec.BoxInside(b, got.b), "BoxTurn by none", axis, got)
		got = ofBox(vec.BoxTurn(axis, point(0.25), b))
		check(t, got.err == api.OK && vec.BoxInside(want, got.b), "BoxTurn by a quarter", axis, got)
		for _, s := range []struct{ got, want api.Span }{{got.b.X, want.X}, {got.b.Y, want.Y}, {got.b.Z, want.Z}} {
			check(t, math.Abs(s.got.Lo-s.want.Lo) < 0x1p-40 && math.Abs(s.got.Hi-s.want.Hi) < 0x1p-40, "BoxTurn by a quarter", axis, got)
		}
		most := api.Box{X: to(-greatest, greatest), Y: to(-greatest, greatest), Z: to(-greatest, greatest)}
		far := []float64{2 * greatest, 2 * greatest, 2 * greatest}
		far[axis] = greatest
		got = ofBox(vec.BoxTurn(axis, to(0, 1), most))
		check(t, got.is(api.Box{X: to(-far[0], far[0]), Y: to(-far[1], far[1]), Z: to(-far[2], far[2])}, api.OK), "BoxTurn of the greatest", axis, got)
	}
}

// Answers that are boxes or spans are told as they are, up to what a span may be: none is too great for that.
func TestGreatestBoxes(t *testing.T) {
	m := to(-greatest, greatest)
	most := api.Box{X: m, Y: point(greatest), Z: m}
	got := ofBox(vec.BoxAdd(most, most))
	check(t, got.is(api.Box{X: to(-0x1p61, 0x1p61), Y: point(0x1p61), Z: to(-0x1p61, 0x1p61)}, api.OK), "BoxAdd", got)
	got = ofBox(vec.BoxSub(most, most))
	check(t, got.is(api.Box{X: to(-0x1p61, 0x1p61), Z: to(-0x1p61, 0x1p61)}, api.OK), "BoxSub", got)
	dot := ofSpan(vec.BoxDot(most, most))
	check(t, dot.is(to(-0x1p120, 0x3p120), api.OK), "BoxDot", dot)
	dot = ofSpan(vec.BoxLong(most))
	check(t, dot.is(to(0x1p120, 0x3p120), api.OK), "BoxLong", dot)
	dot = ofSpan(vec.BoxNorm(most))
	check(t, dot.is(to(greatest, grain.Next(math.Sqrt(3)*greatest)), api.OK) || dot.is(to(greatest, math.Sqrt(3)*greatest), api.OK), "BoxNorm", dot)
}

func TestBoxOf(t *testing.T) {
	for _, v := range vectors() {
		got := ofBox(vec.BoxOf(v))
		check(t, got.is(boxOf(at(v.X+0, v.Y+0, v.Z+0)), api.OK), "BoxOf", v, got) // +0 makes +0 of -0
	}
	for _, v := range badVectors() {
		got := ofBox(vec.BoxOf(v))
		check(t, got.is(api.Box{}, api.ErrFit), "BoxOf", v, got)
	}
}

// P7.1: what is refused, in its order.

// badSpans: what are no spans of a box.
func badSpans() []api.Span {
	l := []api.Span{to(1, 0), to(0, -1), to(least, 0), to(0, -least), to(grain.Next(1), 1), to(greatest, -greatest)}
	for _, x := range above(greatest) {
		l = append(l, point(x), to(x, 0), to(0, x), to(x, 1), to(-1, x), to(-greatest, x))
	}
	return l
}

// badBoxes: what are no boxes.
func badBoxes() []api.Box {
	var l []api.Box
	for _, s := range badSpans() {
		l = append(l, api.Box{X: s, Y: to(1, 2), Z: to(1, 2)}, api.Box{X: to(1, 2), Y: s, Z: to(1, 2)}, api.Box{Z: s}, api.Box{X: s, Y: s, Z: s})
	}
	return l
}

func TestFitBox(t *testing.T) {
	for _, b := range boxes() {
		check(t, vec.FitBox(b), "FitBox", b)
	}
	for _, b := range badBoxes() {
		check(t, !vec.FitBox(b), "FitBox", b)
	}
}

func TestBadBoxes(t *testing.T) {
	one := boxOf(at(1, 2, 3))
	for _, b := range badBoxes() {
		for _, p := range [][2]api.Box{{b, one}, {one, b}, {b, b}, {b, {}}, {{}, b}} {
			check(t, ofBox(vec.BoxAdd(p[0], p[1])).is(api.Box{}, api.ErrFit), "BoxAdd", p)
			check(t, ofBox(vec.BoxSub(p[0], p[1])).is(api.Box{}, api.ErrFit), "BoxSub", p)
			check(t, ofSpan(vec.BoxDot(p[0], p[1])).is(api.Span{}, api.ErrFit), "BoxDot", p)
		}
		check(t, ofSpan(vec.BoxLong(b)).is(api.Span{}, api.ErrFit), "BoxLong", b)
		check(t, ofSpan(vec.BoxNorm(b)).is(api.Span{}, api.ErrFit), "BoxNorm", b)
		check(t, ofBox(vec.BoxUnit(b)).is(api.Box{}, api.ErrFit), "BoxUnit", b) // ahead of ErrZero
		for axis := range 3 {
			check(t, ofBox(vec.BoxTurn(axis, to(0, 0.1), b)).is(api.Box{}, api.ErrFit), "BoxTurn", axis, b)
			check(t, ofBox(vec.BoxTurn(axis, to(1, 0), b)).is(api.Box{}, api.ErrOrder), "BoxTurn", axis, b) // x comes ahead of the box
		}
	}
}

func TestBadBoxTurns(t *testing.T) {
	one, none := boxOf(at(1, 2, 3)), boxOf(at(math.NaN(), 0, 0))
	for _, axis := range badAxes() {
		for _, x := range []api.Span{{}, to(1, 0), point(0x1p41), point(math.NaN())} { // the axis comes ahead of all
			check(t, ofBox(vec.BoxTurn(axis, x, one)).is(api.Box{}, api.ErrArg), "BoxTurn", axis, x)
			check(t, ofBox(vec.BoxTurn(axis, x, none)).is(api.Box{}, api.ErrArg), "BoxTurn", axis, x)
		}
	}
	for axis := range 3 {
		for _, x := range unfit() {
			for _, turned := range []api.Span{point(x), to(x, -1), to(1, x)} { // ahead of the order
				check(t, ofBox(vec.BoxTurn(axis, turned, one)).is(api.Box{}, api.ErrFit), "BoxTurn", axis, turned)
			}
		}
		for _, turned := range []api.Span{to(1, 0), to(0, -least), to(0x1p41, 0), to(0x1p40, -0x1p41)} { // ahead of the magnitude
			check(t, ofBox(vec.BoxTurn(axis, turned, one)).is(api.Box{}, api.ErrOrder), "BoxTurn", axis, turned)
		}
		for _, turned := range []api.Span{to(0, 0x1p41), to(-grain.Next(0x1p40), 0), point(grain.Next(0x1p40)), to(-0x1p200, 0x1p200)} {
			check(t, ofBox(vec.BoxTurn(axis, turned, one)).is(api.Box{}, api.ErrFit), "BoxTurn", axis, turned)
		}
	}
}

// What lies in what: by the spans, whatever they are.

func TestBoxHas(t *testing.T) {
	b := api.Box{X: to(0, 1), Y: to(-3, -2), Z: to(negZero, greatest)}
	for _, v := range []api.Vec{at(0, -3, 0), at(1, -2, greatest), at(negZero, -2.5, negZero), at(0.5, -2, 0x1p-300)} {
		check(t, vec.BoxHas(b, v), "BoxHas", v)
	}
	for _, v := range []api.Vec{at(-least, -3, 0), at(grain.Next(1), -3, 0), at(0, grain.Prev(-3), 0), at(0, grain.Next(-2), 0), at(0, -3, -1), at(0, -3, grain.Next(greatest)), at(math.NaN(), -3, 0), at(0, math.NaN(), 0), at(0, -3, math.NaN()), at(0, -3, math.Inf(1))} {
		check(t, !vec.BoxHas(b, v), "BoxHas", v)
	}
	far := boxOf(at(0x1p61, -0x1p200, 0)) // no box of this chapter, but its spans may be
	check(t, vec.BoxHas(far, at(0x1p61, -0x1p200, 0)), "BoxHas", far)
	for _, s := range noSpans() {
		for _, b := range []api.Box{{X: s}, {Y: s}, {Z: s}} {
			check(t, !vec.BoxHas(b, api.Vec{}), "BoxHas", b)
		}
	}
}

// noSpans: what chapter 4 takes for no span.
func noSpans() []api.Span {
	l := []api.Span{to(1, -1), to(0, -least), to(least, 0)}
	for _, x := range unfit() {
		l = append(l, to(x, 0), to(0, x), point(x), to(x, 1), to(-1, x))
	}
	return l
}

func TestBoxInsideAndMeet(t *testing.T) {
	l := []api.Span{to(0, 1), to(0.25, 0.5), to(negZero, 0), to(-1, 0), to(1, 2), to(grain.Next(1), 2), to(-1, 3), to(2, 2), to(-0x1p61, 0x1p200)}
	l = append(l, noSpans()...)
	for _, a := range l {
		for _, b := range l {
			_, meet, _ := span.Meet(a, b)
			inside := span.Inside(a, b)
			hold := to(-1, 1)
			for _, p := range [][2]api.Box{
				{{X: a, Y: hold, Z: hold}, {X: b, Y: hold, Z: hold}},
				{{X: hold, Y: a, Z: hold}, {X: hold, Y: b, Z: hold}},
				{{X: hold, Y: hold, Z: a}, {X: hold, Y: hold, Z: b}},
			} {
				check(t, vec.BoxInside(p[0], p[1]) == inside, "BoxInside", p)
				check(t, vec.BoxMeet(p[0], p[1]) == meet, "BoxMeet", p)
			}
		}
	}
	check(t, !vec.BoxMeet(boxOf(at(0, 0, 0)), boxOf(at(1, 1, 1))), "BoxMeet")
	check(t, vec.BoxMeet(boxOf(at(1, negZero, 1)), boxOf(at(1, 0, 1))), "BoxMeet")
}
