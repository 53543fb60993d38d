package sky_test

import (
	"math"
	"slices"
	"testing"

	"orrery/api"
	"orrery/grain"
	"orrery/sky"
)

const (
	least  = 0x1p-200 // the least magnitude above 0 that is fit
	most   = 0x1p200  // the greatest one
	away   = 0x1p40   // of a number of At, of a Size
	far    = 0x1p60   // of a vector's number
	latest = 0x1p24   // of a time
)

var negZero = math.Copysign(0, -1)

func at(x, y, z float64) api.Vec { return api.Vec{X: x, Y: y, Z: z} }

func to(lo, hi float64) api.Span { return api.Span{Lo: lo, Hi: hi} }

func point(x float64) api.Span { return to(x, x) }

func boxOf(v api.Vec) api.Box { return api.Box{X: point(v.X), Y: point(v.Y), Z: point(v.Z)} }

// same: the same number, noughts only with the same sign.
func same(a, b float64) bool { return math.Float64bits(a) == math.Float64bits(b) }

func sameVec(a, b api.Vec) bool { return same(a.X, b.X) && same(a.Y, b.Y) && same(a.Z, b.Z) }

func sameSpan(a, b api.Span) bool { return same(a.Lo, b.Lo) && same(a.Hi, b.Hi) }

func sameBox(a, b api.Box) bool {
	return sameSpan(a.X, b.X) && sameSpan(a.Y, b.Y) && sameSpan(a.Z, b.Z)
}

// A toldVec and a toldBox are what a call answered.
type (
	toldVec struct {
		v   api.Vec
		err api.Errno
	}
	toldBox struct {
		b   api.Box
		err api.Errno
	}
)

func ofVec(v api.Vec, err api.Errno) toldVec        { return toldVec{v, err} }
func ofBox(b api.Box, err api.Errno) toldBox        { return toldBox{b, err} }
func (a toldVec) is(v api.Vec, err api.Errno) bool  { return sameVec(a.v, v) && a.err == err }
func (a toldBox) is(b api.Box, err api.Errno) bool  { return sameBox(a.b, b) && a.err == err }
func (a toldVec) same(b toldVec) bool               { return a.is(b.v, b.err) }
func (a toldBox) same(b toldBox) bool               { return a.is(b.b, b.err) }
func (a toldVec) refused(err api.Errno) bool        { return a.is(api.Vec{}, err) }
func (a toldBox) refused(err api.Errno) bool        { return a.is(api.Box{}, err) }
func place(s api.Sky, i int, d float64) toldVec     { return ofVec(sky.Place(s, i, d)) }
func placeBox(s api.Sky, i int, t api.Span) toldBox { return ofBox(sky.PlaceBox(s, i, t)) }
func of(bodies ...api.Body) api.Sky                 { return api.Sky{Light: 1024, Bodies: bodies} }
func fixed(up int, x, y, z float64) api.Body {
	return api.Body{Kind: api.Fixed, Up: up, At: at(x, y, z)}
}
func orbiting(up int, o api.Orbit) api.Body { return api.Body{Kind: api.Orbiting, Up: up, Orbit: o} }
func waving(up int, l ...api.Wave) api.Body { return api.Body{Kind: api.Waving, Up: up, Waves: l} }
func tabled(up int, t api.Table) api.Body   { return api.Body{Kind: api.Tabled, Up: up, Table: t} }
func table(from, step float64, rows ...[3][]float32) api.Table {
	return api.Table{From: from, Step: step, Rows: rows}
}
func riding(up, frame int, x, y, z float64) api.Body {
	return api.Body{Kind: api.Riding, Up: up, Frame: frame, At: at(x, y, z)}
}

func check(t *testing.T, ok bool, tell ...any) {
	t.Helper()
	if !ok {
		t.Error(tell...)
	}
}

// stands: does body i stand at v at d days, and hold its boxes v then?
func stands(t *testing.T, s api.Sky, i int, d float64, v api.Vec) {
	t.Helper()
	got := place(s, i, d)
	check(t, got.is(v, api.OK), "Place of", i, "at", d, "is", got, "and should be", v)
	for _, days := range []api.Span{point(d), to(max(d-1, -latest), d), to(d, min(d+1, latest))} {
		b := placeBox(s, i, days)
		check(t, b.err == api.OK && holds(b.b, v, 0x1p-30), "PlaceBox of", i, "over", days, "is", b, "and should hold", v)
	}
}

// holds: does v lie, number by number, within a bound of b?
func holds(b api.Box, v api.Vec, bound float64) bool {
	has := func(s api.Span, x float64) bool { return s.Lo-bound <= x && x <= s.Hi+bound }
	return has(b.X, v.X) && has(b.Y, v.Y) && has(b.Z, v.Z)
}

// The chapter's examples.

func circling() api.Sky { return of(fixed(-1, 0, 0, 0), orbiting(0, api.Orbit{Axis: 8, Rate: 0.25})) }

func TestExamples(t *testing.T) {
	s := circling()
	check(t, sky.Check(s) == api.OK, "Check")
	stands(t, s, 1, 0, at(8, 0, 0))
	stands(t, s, 1, 1, at(0, 8, 0))
	stands(t, s, 0, 1, at(0, 0, 0))
	check(t, sky.Check(of(fixed(0, 0, 0, 0))) == api.ErrSky, "a body about itself")
	check(t, place(of(fixed(0, 0, 0, 0)), 0, 0).refused(api.ErrSky), "a body about itself")
	dark := circling()
	dark.Light = 0
	check(t, sky.Check(dark) == api.ErrSky && place(dark, 0, 0).refused(api.ErrSky), "Light 0")
	check(t, place(s, 2, 0).refused(api.ErrArg), "body 2 of two")
}

// Those of the whole.
func TestExamplesOfTheWhole(t *testing.T) {
	stands(t, of(fixed(-1, 0, 0, 0), fixed(-1, 3, 4, 0)), 1, 0, at(3, 4, 0))
	s := of(fixed(-1, 0, 0, 0), riding(0, 0, 1, 0, 0))
	s.Frames = []api.Frame{{Up: -1, Axis: 2, Rate: 1}}
	stands(t, s, 1, 0.25, at(0, 1, 0))
	check(t, sky.Check(of()) == api.OK && sky.Check(api.Sky{}) == api.ErrSky, "no bodies")
	check(t, place(of(), 0, 0).refused(api.ErrArg), "of no bodies")
}

// All kinds about one another, worked by hand.

func mixed() api.Sky {
	return api.Sky{
		Light:  1,
		Frames: []api.Frame{{Up: -1, Axis: 2, Rate: 0.25, Origin: at(100, 0, 0)}, {Up: 0, Axis: 0, Phase: 0.25, Origin: at(0, 20, 0)}},
		Bodies: []api.Body{
			waving(-1, api.Wave{Amp: 2, Rate: 0.5}, api.Wave{Axis: 2, Amp: 1, Phase: 0.5}, api.Wave{Axis: 1, Power: 1, Amp: 65536}),
			orbiting(0, api.Orbit{Axis: 8, Rate: 0.25}),
			fixed(1, 1000, 2000, negZero),
			tabled(1, table(0, 2, [3][]float32{{5, 1}, {7}, {}}, [3][]float32{{1}, {}, {0, 3}})),
			riding(3, 1, 1, 2, 3),
			riding(-1, 0, 0, 5, 0),
			tabled(-1, table(1, 1, [3][]float32{{}, {}, {0.5}})),
		},
	}
}

func TestWorkedOut(t *testing.T) {
	s := mixed()
	for _, c := range []struct {
		i    int
		d    float64
		want api.Vec
	}{
		{0, 0, at(2, 0, -1)},
		{0, 1, at(-2, 1, -1)},
		{0, 2, at(2, 2, -1)},
		{1, 0, at(10, 0, -1)},
		{1, 1, at(-2, 9, -1)},
		{1, 2, at(-6, 2, -1)},
		{2, 1, at(998, 2009, -1)},
		{3, -2, at(-2, 5, -1)},
		{3, 1, at(3, 16, -1)},
		{3, 2, at(-5, 2, -4)},
		{3, 3, at(-1, -5, -1)},
		{3, 4, at(11, 4, 2)},
		{4, 0, at(115, 24, 1)}, // rides in 1 as (1, 2, 3), in 0 as (1, 17, 2), in the root as (101, 17, 2)
		{4, 1, at(86, 17, 1)},  // in 0 as (1, 17, 2), in the root as (83, 1, 2)
		{5, 0, at(100, 5, 0)},
		{5, 1, at(95, 0, 0)},
		{5, 2, at(100, -5, 0)},
		{6, 7, at(0, 0, 0.5)},
	} {
		stands(t, s, c.i, c.d, c.want)
	}
	b := placeBox(s, 2, to(0, 4))
	check(t, b.err == api.OK && holds(b.b, at(1010, 2004+8, -1), 0) && holds(b.b, at(990, 1992, -1), 0) &&
		holds(api.Box{X: to(990, 1010), Y: to(1992, 2012), Z: point(-1)}, at(b.b.X.Lo, b.b.Y.Lo, b.b.Z.Lo), 0x1p-30) &&
		holds(api.Box{X: to(990, 1010), Y: to(1992, 2012), Z: point(-1)}, at(b.b.X.Hi, b.b.Y.Hi, b.b.Z.Hi), 0x1p-30), "PlaceBox", b)
}

// P15.1: what is taken.

// refused, taken: do all calls refuse a sky so, do they take it, whatever else they are handed?
func refused(t *testing.T, s api.Sky, err api.Errno) {
	t.Helper()
	check(t, sky.Check(s) == err, "Check is", sky.Check(s), "and not", err, "of", s)
	for _, i := range []int{0, len(s.Bodies) - 1, -1, len(s.Bodies), math.MinInt} {
		for _, d := range []float64{0, math.NaN()} {
			check(t, place(s, i, d).refused(err), "Place", i, d, "of", s)
			check(t, placeBox(s, i, point(d)).refused(err), "PlaceBox", i, d, "of", s)
		}
	}
}

func taken(t *testing.T, s api.Sky) {
	t.Helper()
	check(t, sky.Check(s) == api.OK, "Check is", sky.Check(s), "of", s)
	for i := range s.Bodies {
		check(t, place(s, i, 1).err == api.OK && placeBox(s, i, to(1, 2)).err == api.OK, "body", i, "of", s)
	}
}

// everywhere: is b taken, or else refused, wherever it stands in a sky with two frames?
func everywhere(t *testing.T, b api.Body, may bool) {
	t.Helper()
	for _, i := range []int{0, 1, 7, 14, 15} {
		for _, n := range []int{i + 1, api.MaxBodies} {
			s := of(slices.Repeat([]api.Body{fixed(-1, 1, 2, 3)}, n)...)
			s.Frames = make([]api.Frame, 2)
			s.Frames[0].Up, s.Frames[1].Up = -1, -1
			s.Bodies[i] = b
			if may {
				taken(t, s)
			} else {
				refused(t, s, api.ErrSky)
				s.Bodies = s.Bodies[:i]
				taken(t, s)
			}
		}
	}
}

// unfit: numbers that are never fit.
func unfit() []float64 {
	return []float64{
		math.NaN(), math.Float64frombits(0xfff0000000000123), math.Inf(1), math.Inf(-1), math.SmallestNonzeroFloat64,
		grain.Prev(least), -grain.Prev(least), 0x1p-1000, grain.Next(most), math.MaxFloat64, -math.MaxFloat64,
	}
}

// beyond: unfit numbers, and those above a greatest magnitude.
func beyond(greatest float64) []float64 {
	next := grain.Next(greatest)
	return append(unfit(), next, -next, 2*greatest, -2*greatest, most, -most)
}

// upTo: numbers that are taken up to a greatest magnitude.
func upTo(greatest float64) []float64 {
	l := []float64{0, negZero, least, -least, 0.1, -1}
	return append(l, greatest, -greatest, grain.Prev(greatest), -grain.Prev(greatest))
}

func TestLightsThatMayBe(t *testing.T) {
	for _, x := range []float64{0x1p-20, grain.Next(0x1p-20), 1, 1024, grain.Prev(far), far} {
		s := circling()
		s.Light = x
		taken(t, s)
		s.Bodies = nil
		taken(t, s)
	}
	for _, x := range append(beyond(far), 0, negZero, grain.Prev(0x1p-20), least, -1, -0x1p-20, -far) {
		s := circling()
		s.Light = x
		refused(t, s, api.ErrSky)
		s.Bodies = nil
		refused(t, s, api.ErrSky)
	}
}

func TestUpsThatMayBe(t *testing.T) {
	ups := []int{math.MinInt, -1 << 32, -2, -1, 1<<32 - 1, 1 << 32, math.MaxInt}
	for i := range 20 {
		ups = append(ups, i)
	}
	for n := 1; n <= api.MaxBodies; n++ {
		for i := range n {
			for _, up := range ups {
				s := of(slices.Repeat([]api.Body{fixed(-1, 1, 2, 3)}, n)...)
				s.Bodies[i].Up = up
				if -1 <= up && up < i {
					taken(t, s)
					stands(t, s, i, 0, at(float64(1+min(up+1, 1)), float64(2+2*min(up+1, 1)), float64(3+3*min(up+1, 1))))
				} else {
					check(t, sky.Check(s) == api.ErrSky && place(s, 0, 0).refused(api.ErrSky), "body", i, "of", n, "about", up)
				}
			}
		}
	}
}

// Of Size the chapter tells the ends, and not that it is fit.
func TestSizesThatMayBe(t *testing.T) {
	for _, x := range []float64{0, negZero, math.SmallestNonzeroFloat64, 0x1p-300, least, 1, grain.Prev(away), away} {
		for _, b := range oneOfEach() {
			b.Size = x
			everywhere(t, b, true)
		}
	}
	for _, x := range []float64{
		math.NaN(), math.Inf(1), math.Inf(-1), grain.Next(away), 2 * away, most, math.MaxFloat64, -math.SmallestNonzeroFloat64, -1, -least, -away,
	} {
		for _, b := range oneOfEach() {
			b.Size = x
			everywhere(t, b, false)
		}
	}
}

// oneOfEach: a body of each kind, as a sky with two frames may have it.
func oneOfEach() []api.Body {
	return []api.Body{
		fixed(-1, 1, 2, 3), orbiting(-1, api.Orbit{Axis: 1, Ecc: 0.5}), waving(-1, api.Wave{Amp: 1}),
		tabled(-1, table(0, 1, [3][]float32{{1}})), riding(-1, 1, 1, 2, 3),
	}
}

func TestKindsThatMayBe(t *testing.T) {
	all := api.Body{Up: -1, At: at(1, 2, 3), Orbit: api.Orbit{Axis: 1}, Waves: []api.Wave{{}}, Table: table(0, 1, [3][]float32{{1}})}
	for kind := -3; kind < 20; kind++ {
		all.Kind = kind
		everywhere(t, all, 1 <= kind && kind <= 5)
	}
	for _, kind := range []int{math.MinInt, math.MaxInt, 1<<32 + 1, -1 << 32, 257} {
		all.Kind = kind
		everywhere(t, all, false)
	}
}

func TestPlacesOfFixedAndRiding(t *testing.T) {
	try := func(x float64, may bool) {
		for _, v := range []api.Vec{at(x, 0, 0), at(0, x, 0), at(0, 0, x)} {
			everywhere(t, fixed(-1, v.X, v.Y, v.Z), may)
			everywhere(t, riding(-1, 1, v.X, v.Y, v.Z), may)
		}
	}
	for _, x := range upTo(away) {
		try(x, true)
	}
	for _, x := range beyond(away) {
		try(x, false)
	}
}

func TestFramesOfRiding(t *testing.T) {
	for _, i := range []int{0, 1} {
		everywhere(t, riding(-1, i, 1, 2, 3), true)
	}
	for _, i := range []int{-1, -2, 2, 3, 16, math.MinInt, math.MaxInt, 1 << 32, -1 << 32} {
		everywhere(t, riding(-1, i, 1, 2, 3), false)
	}
	for _, i := range []int{-1, 0} {
		refused(t, of(riding(-1, i, 1, 2, 3)), api.ErrSky) // of no frames
	}
	s := of(riding(-1, 15, 1, 2, 3))
	s.Frames = slices.Repeat([]api.Frame{{Up: -1}}, api.MaxFrames)
	taken(t, s)
	s.Frames = s.Frames[:15]
	refused(t, s, api.ErrSky)
}

func TestOrbitsOfOrbiting(t *testing.T) {
	good := api.Orbit{Axis: 1, Ecc: 0.875, Tilt: 1024, Node: -1024, Peri: 1, Phase: least, Rate: 1024}
	everywhere(t, orbiting(-1, good), true)
	for k := range 7 {
		for _, x := range append(unfit(), 1025, -1025, 0x1p41) {
			o := good
			if *[]*float64{&o.Axis, &o.Ecc, &o.Tilt, &o.Node, &o.Peri, &o.Phase, &o.Rate}[k] = x; k == 0 && x == 1025 {
				continue
			}
			everywhere(t, orbiting(-1, o), false)
		}
	}
	for _, o := range []api.Orbit{{}, {Axis: 0x1p-21}, {Axis: 0x1p41}, {Axis: 1, Ecc: 0.9}, {Axis: 1, Ecc: -0.1}} {
		everywhere(t, orbiting(-1, o), false)
	}
}

func TestWavesOfWaving(t *testing.T) {
	everywhere(t, waving(-1), true)
	everywhere(t, waving(-1, make([]api.Wave, 32)...), true)
	for _, n := range []int{33, 100} { // not ErrLong: the body may not be
		everywhere(t, waving(-1, make([]api.Wave, n)...), false)
	}
	for _, w := range []api.Wave{{Axis: 3}, {Axis: -1}, {Power: 3}, {Amp: 0x1p41}, {Phase: 1025}, {Rate: math.NaN()}} {
		everywhere(t, waving(-1, api.Wave{}, w), false)
	}
}

func TestTablesOfTabled(t *testing.T) {
	row := [3][]float32{{1}, {2, 3}, {}}
	everywhere(t, tabled(-1, table(0, 1, row)), true)
	everywhere(t, tabled(-1, table(-latest, latest, make([][3][]float32, 64)...)), true)
	for _, x := range []api.Table{
		{}, table(0, 1), table(0, 0, row), table(math.NaN(), 1, row), table(0x1p25, 1, row), table(0, 1, make([][3][]float32, 65)...),
		table(0, 1, row, [3][]float32{{}, {}, {float32(math.Inf(1))}}), table(0, 1, [3][]float32{make([]float32, 17)}),
	} {
		everywhere(t, tabled(-1, x), false)
	}
}

// What a body's kind doesn't use is not looked at.
func TestUnusedFields(t *testing.T) {
	nan := math.NaN()
	for k, b := range oneOfEach() {
		other := b
		if kind := b.Kind; kind != api.Fixed && kind != api.Riding {
			other.At = at(nan, math.Inf(1), 0x1p41)
		}
		if b.Kind != api.Orbiting {
			other.Orbit = api.Orbit{Axis: nan, Ecc: 2}
		}
		if b.Kind != api.Waving {
			other.Waves = make([]api.Wave, 40)
			other.Waves[3].Amp = nan
		}
		if b.Kind != api.Tabled {
			other.Table = table(nan, 0, make([][3][]float32, 70)...)
		}
		if b.Kind != api.Riding {
			other.Frame = -7 + 100*k
		}
		everywhere(t, other, true)
		plain, odd := of(fixed(-1, 5, 6, 7), b), of(fixed(-1, 5, 6, 7), other)
		plain.Bodies[1].Up, odd.Bodies[1].Up = 0, 0
		plain.Frames = []api.Frame{{Up: -1, Rate: 1}, {Up: 0, Axis: 1, Rate: 2, Origin: at(1, 1, 1)}}
		odd.Frames = plain.Frames
		for _, d := range []float64{0, 0.375, 7.3, -100} {
			check(t, place(odd, 1, d).same(place(plain, 1, d)) && place(plain, 1, d).err == api.OK, "Place", other, d)
			check(t, placeBox(odd, 1, point(d)).same(placeBox(plain, 1, point(d))), "PlaceBox", other, d)
		}
	}
}

func TestLongLists(t *testing.T) {
	for n := range 40 {
		s := of(slices.Repeat([]api.Body{fixed(n%2-1, 1, 2, 3)}, n)...)
		for i := range s.Bodies {
			s.Bodies[i].Up = i - 1
		}
		if n <= 16 {
			taken(t, s)
		} else {
			refused(t, s, api.ErrLong)
		}
		s = circling()
		s.Frames = slices.Repeat([]api.Frame{{Up: -1}}, n)
		if n <= 16 {
			taken(t, s)
		} else {
			refused(t, s, api.ErrLong)
		}
	}
	refused(t, of(make([]api.Body, 5000)...), api.ErrLong)
}

func TestFramesThatMayNotBe(t *testing.T) {
	for _, f := range []api.Frame{{Up: 1}, {Up: -2}, {Up: -1, Axis: 3}, {Up: -1, Rate: 1025}, {Up: -1, Origin: at(0, math.NaN(), 0)}} {
		s := circling() // no body of which rides
		s.Frames = []api.Frame{{Up: -1}, f}
		refused(t, s, api.ErrFrame)
		s.Frames = s.Frames[:1]
		taken(t, s)
	}
}

// P15.1: the order of the errors.

// A trial is a sky, a body's number and a time, with the error that each makes if nothing ahead of it does.
type trial struct {
	s                                       api.Sky
	i                                       int
	d                                       float64
	bodies, frames, lights, body, arg, time api.Errno
}

func (a trial) first() api.Errno {
	for _, err := range []api.Errno{a.bodies, a.frames, a.lights, a.body, a.arg, a.time} {
		if err != api.OK {
			return err
		}
	}
	return api.OK
}

func each(l []trial, do func(a trial, add func(trial))) []trial {
	var all []trial
	for _, a := range l {
		do(a, func(b trial) { all = append(all, b) })
	}
	return all
}

func trials() []trial {
	all := []trial{{}}
	all = each(all, func(a trial, add func(trial)) {
		a.s = of(fixed(-1, 1, 2, 3), fixed(0, 1, 2, 3))
		add(a)
		bad := slices.Clone(a.s.Bodies)
		bad[1].Kind = 6
		a.s.Bodies, a.body = bad, api.ErrSky
		add(a)
		a.s.Bodies, a.bodies = slices.Repeat(bad, 9), api.ErrLong
		add(a)
	})
	all = each(all, func(a trial, add func(trial)) {
		add(a)
		a.s.Frames, a.frames = []api.Frame{{Up: 0}}, api.ErrFrame
		add(a)
		a.s.Frames, a.frames = make([]api.Frame, 17), api.ErrLong
		add(a)
	})
	all = each(all, func(a trial, add func(trial)) {
		add(a)
		a.s.Light, a.lights = -1, api.ErrSky
		add(a)
	})
	all = each(all, func(a trial, add func(trial)) {
		for _, i := range []int{0, 1, len(a.s.Bodies) - 1, -1, -2, len(a.s.Bodies), 16, 17, 1 << 32, math.MinInt, math.MaxInt} {
			if a.i, a.arg = i, api.OK; i < 0 || i >= len(a.s.Bodies) {
				a.arg = api.ErrArg
			}
			add(a)
		}
	})
	return each(all, func(a trial, add func(trial)) {
		for _, d := range []float64{0, -latest, latest, grain.Next(latest), math.NaN()} {
			if a.d, a.time = d, api.OK; !(d <= latest) {
				a.time = api.ErrDate
			}
			add(a)
		}
	})
}

func TestErrorsInTheirOrder(t *testing.T) {
	counted := map[api.Errno]int{}
	for _, a := range trials() {
		want := a.first()
		counted[want]++
		got, box := place(a.s, a.i, a.d), placeBox(a.s, a.i, point(a.d))
		check(t, got.err == want && (want == api.OK || got.refused(want)), "Place", a, got)
		check(t, box.err == want && (want == api.OK || box.refused(want)), "PlaceBox", a, box)
		if a.bodies == api.OK && a.frames == api.OK && a.lights == api.OK && a.body == api.OK {
			want = api.OK
		}
		check(t, sky.Check(a.s) == want, "Check", a, sky.Check(a.s))
	}
	check(t, len(counted) == 6, counted)
}

func TestTimes(t *testing.T) {
	for k, b := range oneOfEach() {
		s := of(b)
		s.Frames = []api.Frame{{Up: -1}, {Up: -1}}
		good, bad := append(upTo(latest), 16777215.5), beyond(latest)
		for _, d := range good {
			check(t, place(s, 0, d).err == api.OK, k, d)
			for _, e := range good {
				got := placeBox(s, 0, to(d, e))
				check(t, d <= e && got.err == api.OK || d > e && got.refused(api.ErrDate), k, d, e, got)
			}
			for _, e := range bad {
				check(t, placeBox(s, 0, to(d, e)).refused(api.ErrDate) && placeBox(s, 0, to(e, d)).refused(api.ErrDate), k, d, e)
			}
		}
		for _, d := range bad {
			check(t, place(s, 0, d).refused(api.ErrDate), k, d)
			check(t, placeBox(s, 0, point(d)).refused(api.ErrDate), k, d)
		}
	}
}

// P15.1: places that are too far. Only waves that grow lead so far.

// growing: a body that at a day of 2^24 is parts times 2^56 away along an axis, and at day 0 at 0.
func growing(up, axis, parts int) api.Body {
	return waving(up, slices.Repeat([]api.Wave{{Axis: axis, Power: 2, Amp: away}}, parts)...)
}

func along(axis int, x float64) api.Vec {
	return [3]api.Vec{at(x, 0, 0), at(0, x, 0), at(0, 0, x)}[axis]
}

func TestTooFar(t *testing.T) {
	for axis := range 3 {
		s := of(growing(-1, axis, 16), growing(-1, axis, 17), fixed(1, 1, 1, 1), growing(0, axis, 1), fixed(3, 1, 1, 1), growing(0, axis, 16), growing(5, axis, 1), orbiting(0, api.Orbit{Axis: 1}))
		end := point(latest)
		stands(t, s, 0, latest, along(axis, far))
		check(t, place(s, 7, latest).err == api.OK && placeBox(s, 7, end).err == api.OK, "a little beyond, but by rounding not", place(s, 7, latest))
		for _, i := range []int{1, 2} { // the body's own way is too far
			check(t, place(s, i, latest).refused(api.ErrFit), "Place of", i, place(s, i, latest))
			check(t, placeBox(s, i, end).refused(api.ErrFit), "PlaceBox of", i, placeBox(s, i, end))
		}
		for _, i := range []int{3, 4, 5, 6} { // the sum is
			check(t, place(s, i, latest).refused(api.ErrFit), "Place of", i, place(s, i, latest))
		}
		check(t, placeBox(s, 6, end).refused(api.ErrFit), "the box on the way", placeBox(s, 6, end))
		b := placeBox(s, 5, end) // the last box is as BoxAdd answers it
		check(t, b.err == api.OK && holds(b.b, along(axis, 2*far), 0), "the last box", b)
		for i := range s.Bodies {
			check(t, place(s, i, 0).err == api.OK && placeBox(s, i, point(0)).err == api.OK, "at day 0", i)
			wide := placeBox(s, i, to(0, latest))
			check(t, (wide.err == api.OK) == (placeBox(s, i, end).err == api.OK) && (wide.err == api.OK || wide.refused(api.ErrFit)), "over all days", i, wide)
		}
	}
}

// Others are not asked: a body beyond all vectors doesn't hinder those that don't go about it.
func TestTooFarElsewhere(t *testing.T) {
	s := of(fixed(-1, 1, 2, 3), growing(-1, 0, 32), fixed(0, 10, 20, 30), fixed(1, 0, 0, 0), fixed(2, 100, 200, 300))
	stands(t, s, 4, latest, at(111, 222, 333))
	check(t, place(s, 3, latest).refused(api.ErrFit) && placeBox(s, 3, point(latest)).refused(api.ErrFit), "about it")
}

// A sum that is too small to be fit counts as 0; noughts are +0.
func TestNoughts(t *testing.T) {
	x := grain.Next(least)
	s := of(fixed(-1, x, -x, negZero), fixed(0, -least, least, negZero), fixed(0, -x, x, 0))
	stands(t, s, 1, 0, at(0, 0, 0))
	stands(t, s, 2, 0, at(0, 0, 0))
	b := placeBox(s, 1, point(0))
	check(t, b.is(api.Box{X: to(0, least), Y: to(-least, 0)}, api.OK), "PlaceBox", b)
	s = of(fixed(-1, negZero, negZero, negZero), waving(-1, api.Wave{Amp: negZero}), tabled(-1, table(0, 1, [3][]float32{{float32(negZero)}})), riding(-1, 0, negZero, negZero, negZero))
	s.Frames = []api.Frame{{Up: -1, Axis: 1, Rate: 1, Origin: at(negZero, negZero, negZero)}}
	for i := range s.Bodies {
		for _, d := range []float64{0, negZero, -3} {
			check(t, place(s, i, d).is(at(0, 0, 0), api.OK), "Place", i, place(s, i, d))
		}
	}
	check(t, placeBox(s, 0, to(negZero, negZero)).is(api.Box{}, api.OK), "PlaceBox")
}
