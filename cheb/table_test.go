package cheb_test

import (
	"math"
	"slices"
	"testing"

	"orrery/api"
	"orrery/cheb"
	"orrery/grain"
	"orrery/poly"
	"orrery/span"
)

const (
	leastStep = 0x1p-10 // of a table, in days
	mostStep  = 0x1p24
)

// A row is the coefficients of x, y and z.
type row = [3][]float32

// rowsOf: so many rows that tell nothing but noughts.
func rowsOf(n int) []row { return make([]row, n) }

// P13.1: what is taken.

// refused: do all calls refuse a table so, whatever the time?
func refused(t *testing.T, l api.Table, err api.Errno) {
	t.Helper()
	check(t, cheb.Check(l) == err, "Check", l)
	for _, d := range []float64{0, 1, 0x1p25, math.NaN()} {
		check(t, ofPlace(cheb.Piece(l, d)).refused(err), "Piece", l, d)
		check(t, ofVec(cheb.At(l, d)).refused(err), "At", l, d)
		check(t, ofBox(cheb.Box(l, point(d))).refused(err), "Box", l, d)
	}
	check(t, ofBox(cheb.Box(l, to(1, 0))).refused(err), "Box", l)
}

// taken: do all calls take a table with rows?
func taken(t *testing.T, l api.Table) {
	t.Helper()
	check(t, cheb.Check(l) == api.OK, "Check", l)
	for _, d := range upTo(latest) {
		p := ofPlace(cheb.Piece(l, d))
		check(t, p.err == api.OK && 0 <= p.row && p.row < len(l.Rows) && -1 <= p.x && p.x <= 1, "Piece", l, d, p)
		check(t, ofVec(cheb.At(l, d)).err == api.OK, "At", l, d)
		check(t, ofBox(cheb.Box(l, point(d))).err == api.OK, "Box", l, d)
	}
}

func TestCountsOfRows(t *testing.T) {
	for n := 1; n <= 64; n++ {
		taken(t, api.Table{Step: 1, Rows: rowsOf(n)})
	}
	for _, n := range []int{65, 66, 100, 5000} {
		refused(t, api.Table{Step: 1, Rows: rowsOf(n)}, api.ErrLong)
		refused(t, api.Table{Rows: rowsOf(n)}, api.ErrLong) // ahead of ErrTable
		refused(t, api.Table{From: math.NaN(), Step: 1, Rows: rowsOf(n)}, api.ErrLong)
		rows := rowsOf(n)
		rows[0][0] = []float32{float32(math.NaN())}
		refused(t, api.Table{Step: 1, Rows: rows}, api.ErrLong)
	}
}

func TestFromAndStepThatMayBe(t *testing.T) {
	for _, n := range []int{0, 1, 64} {
		for _, x := range beyond(latest) {
			refused(t, api.Table{From: x, Step: 1, Rows: rowsOf(n)}, api.ErrTable)
			refused(t, api.Table{Step: x, Rows: rowsOf(n)}, api.ErrTable)
		}
		for _, x := range []float64{0, negZero, -1, -leastStep, -mostStep, grain.Prev(leastStep), least, grain.Next(mostStep)} {
			refused(t, api.Table{Step: x, Rows: rowsOf(n)}, api.ErrTable)
		}
	}
	for _, x := range upTo(latest) {
		taken(t, api.Table{From: x, Step: 1, Rows: rowsOf(3)})
		check(t, cheb.Check(api.Table{From: x, Step: 1}) == api.OK, "Check", x)
	}
	for _, x := range []float64{leastStep, grain.Next(leastStep), 1, 0.1, grain.Prev(mostStep), mostStep} {
		taken(t, api.Table{Step: x, Rows: rowsOf(3)})
		check(t, cheb.Check(api.Table{Step: x}) == api.OK, "Check", x)
	}
}

// inPlaces: tables with c in one place of their rows: of the first row, of one between and of the last; of x, y and z.
func inPlaces(c []float32) []api.Table {
	var all []api.Table
	for _, n := range []int{1, 3, 64} {
		for _, i := range []int{0, n / 2, n - 1} {
			for axis := range 3 {
				rows := rowsOf(n)
				rows[i][axis] = c
				all = append(all, api.Table{From: -1, Step: 2, Rows: rows})
			}
		}
	}
	return all
}

func TestRowsThatMayBe(t *testing.T) {
	nan, inf := float32(math.NaN()), float32(math.Inf(1))
	above := math.Nextafter32(great, inf)
	for _, x := range []float32{nan, math.Float32frombits(0xff800123), inf, -inf, above, -above, 0x1p41, math.MaxFloat32, -math.MaxFloat32} {
		for _, c := range [][]float32{{x}, {1, x}, append(make([]float32, 15), x)} {
			for _, l := range inPlaces(c) {
				refused(t, l, api.ErrTable)
			}
		}
	}
	for _, n := range []int{17, 18, 256, 5000} {
		for _, l := range inPlaces(make([]float32, n)) {
			refused(t, l, api.ErrTable)
		}
	}
	small := float32(math.SmallestNonzeroFloat32)
	for _, x := range []float32{0, float32(negZero), small, -small, 0x1p-126, 0.1, -0.1, 0x1p40, -0x1p40, math.Nextafter32(0x1p40, 0)} {
		for _, c := range [][]float32{{x}, {1, x}, append(make([]float32, 15), x)} {
			for _, l := range inPlaces(c) {
				taken(t, l)
			}
		}
	}
	for n := range 17 {
		for _, l := range inPlaces(make([]float32, n)) {
			taken(t, l)
		}
	}
}

func TestTimesThatMayNotBe(t *testing.T) {
	for _, n := range []int{0, 1, 64} { // with no rows, none may be
		l := api.Table{Step: 1, Rows: rowsOf(n)}
		for _, d := range beyond(latest) {
			check(t, ofPlace(cheb.Piece(l, d)).refused(api.ErrDate), "Piece", n, d)
			check(t, ofVec(cheb.At(l, d)).refused(api.ErrDate), "At", n, d)
			for _, s := range []api.Span{point(d), to(0, d), to(d, 0), to(-latest, d), to(d, latest)} {
				check(t, ofBox(cheb.Box(l, s)).refused(api.ErrDate), "Box", n, s)
			}
		}
		for _, s := range []api.Span{to(1, 0), to(latest, -latest), to(least, -least), to(grain.Next(1), 1)} {
			check(t, ofBox(cheb.Box(l, s)).refused(api.ErrDate), "Box", n, s)
		}
	}
	for _, l := range []api.Table{{Step: 1}, {Step: 1, Rows: rowsOf(0)}} {
		for _, d := range upTo(latest) {
			check(t, ofPlace(cheb.Piece(l, d)).refused(api.ErrDate), "Piece", d)
			check(t, ofVec(cheb.At(l, d)).refused(api.ErrDate), "At", d)
			check(t, ofBox(cheb.Box(l, point(d))).refused(api.ErrDate), "Box", d)
		}
	}
	check(t, ofBox(cheb.Box(api.Table{Step: 1, Rows: rowsOf(1)}, to(-latest, latest))).is(api.Box{}, api.OK), "Box")
}

// The chapter's words once more.

func wantPlace(l api.Table, d float64) (int, float64) {
	y := over(minus(d, l.From), l.Step)
	if y <= 0 {
		return 0, -1
	}
	if y >= float64(len(l.Rows)) {
		return len(l.Rows) - 1, 1
	}
	i := 0
	for float64(i+1) <= y {
		i++
	}
	return i, fitted(minus(times(minus(y, float64(i)), 2), 1)) + 0
}

// wide: coefficients as binary64.
func wide(c []float32) []float64 {
	var w []float64
	for _, x := range c {
		w = append(w, float64(x))
	}
	return w
}

func wantAt(t *testing.T, l api.Table, d float64) api.Vec {
	t.Helper()
	i, x := wantPlace(l, d)
	var v [3]float64
	for axis, c := range l.Rows[i] {
		y, err := poly.Cheb(wide(c), x)
		check(t, err == api.OK, l, d, err)
		v[axis] = fitted(y) + 0
	}
	return at(v[0], v[1], v[2])
}

// wantSpan: what holds the numbers of an axis from a place to another.
func wantSpan(t *testing.T, l api.Table, axis, i int, a float64, j int, b float64) api.Span {
	t.Helper()
	var hull api.Span
	total := 0.0
	for k := i; k <= j; k++ {
		x := to(-1, 1)
		if k == i {
			x.Lo = a
		}
		if k == j {
			x.Hi = b
		}
		s, err := poly.ChebSpan(wide(l.Rows[k][axis]), x)
		check(t, err == api.OK, l, k, x, err)
		if k == i {
			hull = s
		}
		hull = to(min(hull.Lo, s.Lo), max(hull.Hi, s.Hi))
		for _, c := range l.Rows[k][axis] {
			total = plus(total, math.Abs(float64(c)))
		}
	}
	m := fitted(over(total, 0x1p40))
	s, err := span.Add(hull, to(0-m, m))
	check(t, err == api.OK, l, hull, m, err)
	return s
}

func wantBox(t *testing.T, l api.Table, s api.Span) api.Box {
	t.Helper()
	i, a := wantPlace(l, s.Lo)
	j, b := wantPlace(l, s.Hi)
	return api.Box{X: wantSpan(t, l, 0, i, a, j, b), Y: wantSpan(t, l, 1, i, a, j, b), Z: wantSpan(t, l, 2, i, a, j, b)}
}

// row32: coefficients of binary32, any or (mostly) of like magnitudes.
func (c *chance) row32() []float32 {
	var l []float32
	for _, x := range c.coefficients() {
		l = append(l, float32(x)) // noughts of both signs among them
	}
	return l
}

// table: with rows; often near day 0, with steps of whole and of part days.
func (c *chance) table() api.Table {
	l := api.Table{From: c.some(latest), Step: 1 + c.part()}
	switch c.below(4) {
	case 0:
		l.Step = math.Ldexp(1, c.below(35)-10)
	case 1:
		l.Step = math.Abs(c.number(-10, 24))
	case 2:
		l.From = c.number(-5, 5)
	}
	n := 1 + c.below(5)
	if c.below(10) == 0 {
		n = 1 + c.below(api.MaxRows)
	}
	for range n {
		l.Rows = append(l.Rows, row{c.row32(), c.row32(), c.row32()})
	}
	return l
}

// time: one that a table tells, one where two rows meet or next to that, or any.
func (c *chance) time(l api.Table) float64 {
	n := len(l.Rows)
	d := l.From + float64(l.Step*float64(n)*(float64(1.2*c.part())-0.1))
	switch c.below(6) {
	case 0:
		d = l.From + float64(l.Step*float64(c.below(n+1)))
	case 1:
		d = grain.Next(l.From + float64(l.Step*float64(c.below(n+1))))
	case 2:
		d = grain.Prev(l.From + float64(l.Step*float64(c.below(n+1))))
	case 3:
		d = c.some(latest)
	}
	if d = min(max(d, -latest), latest); !grain.Fit(d) {
		d = 0
	}
	return d
}

// days: a span of times.
func (c *chance) days(l api.Table) api.Span {
	a, b := c.time(l), c.time(l)
	switch c.below(4) {
	case 0:
		return point(a)
	case 1:
		b = min(a+float64(l.Step*c.part()), latest)
	}
	if !grain.Fit(b) {
		b = 0
	}
	return to(min(a, b), max(a, b))
}

func TestTablesByTheChaptersWords(t *testing.T) {
	c := chance(11)
	var inner, wider int
	for range 3000 {
		l := c.table()
		for range 4 {
			d, days := c.time(l), c.days(l)
			i, x := wantPlace(l, d)
			p := ofPlace(cheb.Piece(l, d))
			check(t, p.is(i, x, api.OK), "Piece", l, d, p, i, x)
			v, want := ofVec(cheb.At(l, d)), wantAt(t, l, d)
			check(t, v.is(want, api.OK), "At", l, d, v, want)
			b, wantB := ofBox(cheb.Box(l, days)), wantBox(t, l, days)
			check(t, b.is(wantB, api.OK), "Box", l, days, b, wantB)
			j, y := wantPlace(l, days.Hi)
			if i, _ = wantPlace(l, days.Lo); i < j {
				wider++
			}
			if -1 < x && x < 1 && -1 < y && y < 1 {
				inner++
			}
		}
	}
	check(t, inner > 1500 && wider > 1500, inner, wider)
}

func TestPiecesWorkedOut(t *testing.T) {
	two := func(from, step float64) api.Table { return api.Table{From: from, Step: step, Rows: rowsOf(2)} }
	for _, c := range []struct {
		l   api.Table
		d   float64
		row int
		x   float64
	}{
		{two(10, 4), 10, 0, -1},
		{two(10, 4), grain.Prev(10), 0, -1},
		{two(10, 4), -latest, 0, -1},
		{two(10, 4), 0, 0, -1},
		{two(10, 4), grain.Next(10), 0, -1 + 0x1p-50},
		{two(10, 4), 11, 0, -0.5},
		{two(10, 4), 12, 0, 0},
		{two(10, 4), 13, 0, 0.5},
		{two(10, 4), grain.Prev(14), 0, 1 - 0x1p-50},
		{two(10, 4), 14, 1, -1},
		{two(10, 4), grain.Next(14), 1, -1 + 0x1p-50},
		{two(10, 4), 16, 1, 0},
		{two(10, 4), 17, 1, 0.5},
		{two(10, 4), grain.Prev(18), 1, 1 - 0x1p-49},
		{two(10, 4), 18, 1, 1},
		{two(10, 4), 19, 1, 1},
		{two(10, 4), latest, 1, 1},
		{two(-1, 1), -0.75, 0, -0.5}, // From below 0
		{two(-1, 1), negZero, 1, -1},
		{two(-1, 1), 0.75, 1, 0.5},
		{two(0, 1), least, 0, -1}, // y of next to nothing
		{two(0, mostStep), least, 0, -1},
		{two(least, 1), grain.Next(least), 0, -1},
		{two(negZero, 1), 0, 0, -1},
		{two(0, 1), 0.5, 0, 0},
		{two(0, 1), 0.5 + 0x1p-53, 0, 0x1p-52},
		{two(0, 1), 0.5 - 0x1p-54, 0, -0x1p-53},
		{two(0, 1), grain.Prev(1), 0, 1 - 0x1p-52},
		{two(0, 3), 1, 0, -1.0/3 - 0x1p-55},     // the quotient is rounded
		{two(0x1p-60, 1), 1, 1, -1},             // the difference is rounded
		{two(latest, leastStep), latest, 0, -1}, // the ends
		{two(-latest, leastStep), -latest, 0, -1},
		{two(-latest, leastStep), latest, 1, 1},
		{two(-latest, mostStep), latest, 1, 1},
		{two(-latest, mostStep), 0, 1, -1},
		{api.Table{Step: leastStep, Rows: rowsOf(64)}, 63 * leastStep, 63, -1},
		{api.Table{Step: leastStep, Rows: rowsOf(64)}, 63.5 * leastStep, 63, 0},
		{api.Table{Step: leastStep, Rows: rowsOf(64)}, 64 * leastStep, 63, 1},
		{api.Table{Step: leastStep, Rows: rowsOf(1)}, leastStep, 0, 1},
	} {
		p := ofPlace(cheb.Piece(c.l, c.d))
		check(t, p.is(c.row, c.x, api.OK), "Piece", c.l.From, c.l.Step, len(c.l.Rows), c.d, p, "not", c.row, c.x)
	}
}

// three: from day 0 on, a day a row: x is 1 + 2 T1, then 5, then T2; y is 0, then -7 T1, then 0; z is always 3 T0.
func three() api.Table {
	return api.Table{Step: 1, Rows: []row{{{1, 2}, nil, {3}}, {{5}, {0, -7}, {3}}, {{0, 0, 1}, {0, 0}, {3}}}}
}

func TestTablesWorkedOut(t *testing.T) {
	for _, c := range []struct {
		d    float64
		want api.Vec
	}{
		{-latest, at(-1, 0, 3)},
		{0, at(-1, 0, 3)},
		{0.25, at(0, 0, 3)},
		{0.5, at(1, 0, 3)},
		{1, at(5, 7, 3)}, // where two rows meet, the second tells
		{1.25, at(5, 3.5, 3)},
		{1.5, at(5, 0, 3)},
		{2, at(1, 0, 3)},
		{2.25, at(-0.5, 0, 3)},
		{2.5, at(-1, 0, 3)},
		{3, at(1, 0, 3)},
		{latest, at(1, 0, 3)},
	} {
		v := ofVec(cheb.At(three(), c.d))
		check(t, v.is(c.want, api.OK), "At", c.d, v, "not", c.want)
	}
}

// widened: a span and m on both sides.
func widened(lo, hi, m float64) api.Span { return to(lo-m, hi+m) }

func TestBoxesWorkedOut(t *testing.T) {
	e := 0x1p-40
	z := widened(3, 3, 3*e)
	for _, c := range []struct {
		s    api.Span
		want api.Box
	}{
		{point(-5), api.Box{X: widened(-1, -1, 3*e), Z: z}},
		{to(-9, 0), api.Box{X: widened(-1, -1, 3*e), Z: z}},
		{point(0.5), api.Box{X: widened(1, 1, 3*e), Z: z}},
		{to(0, 0.5), api.Box{X: widened(-1, 1, 3*e), Z: z}},
		{to(0.25, 0.75), api.Box{X: widened(0, 2, 3*e), Z: z}},
		{point(1), api.Box{X: widened(5, 5, 5*e), Y: widened(7, 7, 7*e), Z: z}},
		{to(1.25, 1.5), api.Box{X: widened(5, 5, 5*e), Y: widened(0, 3.5, 7*e), Z: z}},
		{to(0.25, 1.25), api.Box{X: widened(0, 5, 8*e), Y: widened(0, 7, 7*e), Z: widened(3, 3, 6*e)}},
		{to(0.75, 2), api.Box{X: widened(1, 5, 9*e), Y: widened(-7, 7, 7*e), Z: widened(3, 3, 9*e)}},
		{to(1.75, 2.5), api.Box{X: widened(-1, 5, 6*e), Y: widened(-7, 0, 7*e), Z: widened(3, 3, 6*e)}},
		{to(-1, 9), api.Box{X: widened(-3, 5, 9*e), Y: widened(-7, 7, 7*e), Z: widened(3, 3, 9*e)}}, // all rows: T2 over [-1, 1] is told as [-3, 1]
		{to(3, 9), api.Box{X: widened(1, 1, e), Z: z}},
	} {
		b := ofBox(cheb.Box(three(), c.s))
		check(t, b.is(c.want, api.OK), "Box", c.s, b, "not", c.want)
	}
}

// What comes out too small to be fit is 0; its box stays wide enough.
func TestSmallNumbers(t *testing.T) {
	tiny := []float32{0, 0x1p-149}
	l := api.Table{Step: 1, Rows: []row{{tiny, {0, 0x1p-148}, {0, -0x1p-149}}}}
	d := 0.5 + 0x1p-53 // at 2^-52
	v := ofVec(cheb.At(l, d))
	check(t, v.is(at(0, least, 0), api.OK), "At", v)
	m := 0x1p-189
	b := ofBox(cheb.Box(l, point(d)))
	check(t, b.is(api.Box{X: to(-m, m+least), Y: widened(least, least, 2*m), Z: to(-m-least, m)}, api.OK), "Box", b)
	v = ofVec(cheb.At(l, 1))
	check(t, v.is(at(0x1p-149, 0x1p-148, -0x1p-149), api.OK), "At", v)
}

// The greatest that there are: above what a vector or a box of chapter 7 may be.
func TestGreatNumbers(t *testing.T) {
	c := slices.Repeat([]float32{great}, api.MaxTerms)
	rows := slices.Repeat([]row{{c, c, c}}, api.MaxRows)
	l := api.Table{From: -latest, Step: 0x1p19, Rows: rows}
	v := ofVec(cheb.At(l, latest))
	check(t, v.is(at(0x1p44, 0x1p44, 0x1p44), api.OK), "At", v)
	b := ofBox(cheb.Box(l, to(-latest, latest)))
	check(t, b.is(wantBox(t, l, to(-latest, latest)), api.OK) && b.b.X.Hi > 0x1p55, "Box", b)
}
