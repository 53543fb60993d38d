package cheb_test

import (
	"math"
	"slices"
	"testing"

	"orrery/api"
	"orrery/cheb"
	"orrery/grain"
	"orrery/poly"
	"orrery/span"
)

func numbers(v api.Vec) [3]float64 { return [3]float64{v.X, v.Y, v.Z} }

func spans(b api.Box) [3]api.Span { return [3]api.Span{b.X, b.Y, b.Z} }

// magnitudes: what they come to in all.
func magnitudes(l []float64) float64 {
	total := 0.0
	for _, x := range l {
		total += math.Abs(x)
	}
	return total
}

// P13.2.

func TestThrough(t *testing.T) {
	c := chance(21)
	through := 0
	for range 6000 {
		values := c.coefficients()
		fit, err := cheb.Fit(values)
		check(t, err == api.OK && len(fit) == len(values), "Fit", values, fit, err)
		if len(values) == 0 || poly.Check(fit) != api.OK {
			continue
		}
		nodes, err := cheb.Nodes(len(values))
		check(t, err == api.OK, "Nodes", len(values), err)
		bound := 0x1p-34*magnitudes(values) + 0x1p-180
		for k, x := range nodes {
			through++
			y, err := poly.Cheb(fit, x)
			check(t, err == api.OK && math.Abs(y-values[k]) <= bound, "Fit", values, fit, "at", x, y, err)
		}
	}
	check(t, through > 30000, through)
}

// A polynomial is found again by its values.
func TestFitFindsThePolynomial(t *testing.T) {
	for n := 1; n <= api.MaxTerms; n++ {
		nodes, _ := cheb.Nodes(n)
		for j := range n {
			want := make([]float64, n)
			want[j] = 3
			values := make([]float64, n)
			for k, x := range nodes {
				values[k], _ = poly.Cheb(want, x)
			}
			fit, err := cheb.Fit(values)
			check(t, err == api.OK && len(fit) == n, "Fit", values, fit, err)
			for i, x := range fit {
				check(t, math.Abs(x-want[i]) <= 0x1p-44, "Fit", values, fit, "not", want)
			}
		}
	}
}

// P13.3.

func TestPack(t *testing.T) {
	c := chance(22)
	off, tight := 0, 0
	for range 6000 {
		l := c.coefficients()
		packed, bound, err := cheb.Pack(l)
		check(t, err == api.OK && len(packed) == len(l), "Pack", l, packed, err)
		for _, x := range []float64{-1, 1, 0, c.either(c.part()), c.either(c.part()), c.number(-60, 0)} {
			y, err := poly.Cheb(l, x)
			z, also := poly.Cheb(wide(packed), x)
			check(t, err == api.OK && also == api.OK, l, x, err, also)
			by := math.Abs(y - z)
			check(t, by <= bound+0x1p-190, "Pack", l, packed, "at", x, "off by", by, "not", bound)
			if by > 0 {
				off++
			}
			if by > bound/4 {
				tight++
			}
		}
	}
	check(t, off > 20000 && tight > 5000, off, tight)
}

// What is in binary32 stays as it is, but for noughts.
func TestPackOfPacked(t *testing.T) {
	c := chance(23)
	for range 3000 {
		packed, _, err := cheb.Pack(c.coefficients())
		twice := ofPack(cheb.Pack(wide(packed)))
		check(t, err == api.OK && twice.is(packed, over(wantTotal(packed), 0x1p40), api.OK), "Pack", packed, twice)
	}
}

func wantTotal(c []float32) float64 {
	total := 0.0
	for _, x := range c {
		total = plus(total, math.Abs(float64(x)))
	}
	return total
}

// P13.4.

// moments: days of a span: its ends, some between, and those where rows meet, with what is next to them.
func (c *chance) moments(l api.Table, s api.Span) []float64 {
	all := []float64{s.Lo, s.Hi, grain.Next(s.Lo), grain.Prev(s.Hi)}
	for range 3 {
		all = append(all, s.Lo+float64(c.part()*(s.Hi-s.Lo)))
	}
	for i := range len(l.Rows) + 1 {
		d := l.From + float64(l.Step*float64(i))
		all = append(all, d, grain.Prev(d), grain.Next(d), d+float64(l.Step*c.part()))
	}
	var in []float64
	for _, d := range all {
		if span.Has(s, d) && grain.Fit(d) {
			in = append(in, d)
		}
	}
	return in
}

func TestBoxesHold(t *testing.T) {
	c := chance(24)
	tried := 0
	for range 4000 {
		l := c.table()
		days := c.days(l)
		b, err := cheb.Box(l, days)
		for _, d := range c.moments(l, days) {
			tried++
			v, also := cheb.At(l, d)
			check(t, err == api.OK && also == api.OK, l, days, d, err, also)
			for axis, s := range spans(b) {
				check(t, span.Has(s, numbers(v)[axis]), "At", l, d, v, "not in", b, "of", days)
			}
		}
	}
	check(t, tried > 30000, tried)
}

// P4: two that hold the same always meet; and a box over a part lies in that over the whole.
func TestBoxesMeet(t *testing.T) {
	c := chance(25)
	for range 1500 {
		l := c.table()
		days := c.days(l)
		whole, err := cheb.Box(l, days)
		for _, d := range c.moments(l, days) {
			part, also := cheb.Box(l, point(d))
			check(t, err == api.OK && also == api.OK, l, days, d, err, also)
			for axis, s := range spans(part) {
				check(t, span.Inside(s, spans(whole)[axis]), "Box", l, d, part, "not in", whole, "of", days)
			}
		}
	}
}

// P13.5.

func TestAheadAndBehind(t *testing.T) {
	c := chance(26)
	ahead, behind := 0, 0
	for range 3000 {
		l := c.table()
		first, last := ofVec(cheb.At(l, l.From)), ofVec(cheb.At(l, latest))
		n := float64(len(l.Rows))
		end := l.From + float64(l.Step*n)
		for _, d := range []float64{-latest, grain.Prev(l.From), l.From - c.part(), l.From - float64(latest*c.part()), c.some(latest)} {
			if d < l.From && grain.Fit(d) && d >= -latest {
				ahead++
				v := ofVec(cheb.At(l, d))
				check(t, v.is(first.v, api.OK), "At", l, d, v, first)
			}
		}
		for _, d := range []float64{latest, end, grain.Next(end), end + c.part(), end + float64(latest*c.part()), c.some(latest)} {
			if d <= latest && grain.Fit(d) && (d-l.From)/l.Step >= n {
				behind++
				v := ofVec(cheb.At(l, d))
				check(t, v.is(last.v, api.OK), "At", l, d, v, last)
			}
		}
	}
	check(t, ahead > 5000 && behind > 5000, ahead, behind)
}

// Noughts are +0, whatever their signs are in what is handed in.
func TestNoughts(t *testing.T) {
	n := negZero
	fit := ofList(cheb.Fit([]float64{n, n, n}))
	check(t, fit.is([]float64{0, 0, 0}, api.OK), "Fit", fit)
	fit = ofList(cheb.Fit([]float64{-least, 0}))
	check(t, fit.is([]float64{0, 0}, api.OK), "Fit", fit)
	fit = ofList(cheb.Fit([]float64{n, -3, n})) // the middle node is 0
	check(t, fit.err == api.OK && same(fit.l[1], 0), "Fit", fit)
	p := ofPack(cheb.Pack([]float64{n, -0x1p-160, n}))
	check(t, p.is([]float32{0, 0, 0}, 0x1p-160+0x1p-200, api.OK), "Pack", p)
	p = ofPack(cheb.Pack([]float64{n}))
	check(t, p.is([]float32{0}, 0, api.OK), "Pack", p)
	nought := float32(n)
	for _, from := range []float64{0, n} {
		l := api.Table{From: from, Step: 1, Rows: []row{{{nought}, {nought, nought}, {0, nought, -1}}, {{0, -1}, nil, {-2, 4}}}}
		for _, d := range []float64{0, n} {
			check(t, ofPlace(cheb.Piece(l, d)).is(0, -1, api.OK), "Piece", l, d)
			check(t, ofVec(cheb.At(l, d)).is(at(0, 0, -1), api.OK), "At", l, d)
			for _, s := range []api.Span{point(d), to(-1, d)} {
				b := ofBox(cheb.Box(l, s))
				check(t, b.is(api.Box{Z: widened(-1, -1, 0x1p-40)}, api.OK), "Box", l, s, b)
			}
		}
		check(t, ofPlace(cheb.Piece(l, 0.5)).is(0, 0, api.OK), "Piece", l)
		check(t, ofPlace(cheb.Piece(l, 1.5)).is(1, 0, api.OK), "Piece", l)
		check(t, ofVec(cheb.At(l, 1.5)).is(at(0, 0, -2), api.OK), "At", l)
		check(t, ofVec(cheb.At(l, 1.75)).is(at(-0.5, 0, 0), api.OK), "At", l)
	}
}

// What is handed in is neither changed nor kept, its spare room neither; what is answered is new.

// shaken: all of a list, its spare room too, made into x.
func shaken[T any](l []T, x T) {
	l = l[:cap(l)]
	for i := range l {
		l[i] = x
	}
}

func TestListsHandedIn(t *testing.T) {
	c := chance(27)
	for range 500 {
		full := append(c.coefficients(), 5, 6, 7)
		old := slices.Clone(full)
		l := full[:len(full)-3]
		fit, packed := ofList(cheb.Fit(l)), ofPack(cheb.Pack(l))
		check(t, slices.EqualFunc(full, old, same), "changed", old, full)
		fitKept, packKept := slices.Clone(fit.l), slices.Clone(packed.l)
		shaken(full, math.NaN())
		check(t, fit.is(fitKept, api.OK) && packed.is(packKept, packed.off, api.OK), "shared", old, fit, packed)
		copy(full, old)
		shaken(fit.l, math.NaN())
		shaken(packed.l, float32(math.NaN()))
		check(t, slices.EqualFunc(full, old, same), "shared", old, full)
		check(t, ofList(cheb.Fit(l)).is(fitKept, api.OK), "Fit", l)
		check(t, ofPack(cheb.Pack(l)).is(packKept, packed.off, api.OK), "Pack", l)
	}
	for n := 1; n <= api.MaxTerms; n++ {
		first, _ := cheb.Nodes(n)
		kept := slices.Clone(first)
		shaken(first, math.NaN())
		check(t, ofList(cheb.Nodes(n)).is(kept, api.OK), "Nodes", n)
	}
}

// copied: a table that shares nothing with l, with what lies in the spare room of its lists.
func copied(l api.Table) api.Table {
	rows := slices.Clone(l.Rows[:cap(l.Rows)])
	for i := range rows {
		for axis, c := range rows[i] {
			rows[i][axis] = slices.Clone(c[:cap(c)])[:len(c)]
		}
	}
	l.Rows = rows[:len(l.Rows)]
	return l
}

func sameTable(a, b api.Table) bool {
	return same(a.From, b.From) && same(a.Step, b.Step) && len(a.Rows) == len(b.Rows) &&
		slices.EqualFunc(a.Rows[:cap(a.Rows)], b.Rows[:cap(a.Rows)], func(x, y row) bool {
			for axis, c := range x {
				if len(c) != len(y[axis]) || !slices.EqualFunc(c[:cap(c)], y[axis][:cap(c)], same32) {
					return false
				}
			}
			return true
		})
}

func TestTablesHandedIn(t *testing.T) {
	c := chance(28)
	for range 500 {
		l := c.table()
		l.Rows = append(l.Rows, row{{9}})[:len(l.Rows)]
		for i := range l.Rows {
			l.Rows[i][0] = append(l.Rows[i][0], 8)[:len(l.Rows[i][0])]
		}
		old := copied(l)
		d, days := c.time(l), c.days(l)
		p, v, b := ofPlace(cheb.Piece(l, d)), ofVec(cheb.At(l, d)), ofBox(cheb.Box(l, days))
		check(t, cheb.Check(l) == api.OK && sameTable(l, old), "changed", old, l)
		check(t, p.is(cheb.Piece(old, d)) && v.is(cheb.At(old, d)) && b.is(cheb.Box(old, days)), l, d, days)
	}
}

// P1: each call answers, whatever the bits; nothing beside an error; and only what may be an answer.

func (c *chance) anyFloat(x float64) float64 {
	if c.below(60) == 0 {
		return math.Float64frombits(c.bits())
	}
	return x
}

func (c *chance) anyTable() api.Table {
	l := c.table()
	if c.below(15) == 0 {
		l.Rows = rowsOf(60 + c.below(10))
	}
	if c.below(20) == 0 {
		l.Rows = nil
	}
	l.From, l.Step = c.anyFloat(l.From), c.anyFloat(l.Step)
	if len(l.Rows) == 0 {
		return l
	}
	r := &l.Rows[c.below(len(l.Rows))][c.below(3)]
	switch c.below(10) {
	case 0:
		*r = append(*r, math.Float32frombits(uint32(c.bits()>>20)))
	case 1:
		*r = make([]float32, 14+c.below(5))
	}
	return l
}

// wantCheck: the chapter's words.
func wantCheck(l api.Table) api.Errno {
	if len(l.Rows) > 64 {
		return api.ErrLong
	}
	if !grain.Fit(l.From) || math.Abs(l.From) > latest || !grain.Fit(l.Step) || l.Step < leastStep || l.Step > mostStep {
		return api.ErrTable
	}
	for _, r := range l.Rows {
		for _, c := range r {
			if poly.Check(wide(c)) != api.OK {
				return api.ErrTable
			}
		}
	}
	return api.OK
}

func isTime(d float64) bool { return grain.Fit(d) && math.Abs(d) <= latest }

// wantReady: the error of a call for a time that may be or not.
func wantReady(l api.Table, may bool) api.Errno {
	err := wantCheck(l)
	if err == api.OK && (!may || len(l.Rows) == 0) {
		err = api.ErrDate
	}
	return err
}

func TestAnyTables(t *testing.T) {
	c := chance(29)
	counted := map[api.Errno]int{}
	for range 12000 {
		l := c.anyTable()
		check(t, cheb.Check(l) == wantCheck(l), "Check", l)
		d, days := c.anyFloat(c.some(latest)), to(c.anyFloat(c.some(latest)), c.anyFloat(c.some(latest)))
		err := wantReady(l, isTime(d))
		counted[err]++
		p := ofPlace(cheb.Piece(l, d))
		check(t, p.err == err && grain.Fit(p.x) && math.Abs(p.x) <= 1 && (err == api.OK || p.refused(err)), "Piece", l, d, p)
		v := ofVec(cheb.At(l, d))
		fit := grain.Fit(v.v.X) && grain.Fit(v.v.Y) && grain.Fit(v.v.Z)
		check(t, v.err == err && fit && (err == api.OK || v.refused(err)), "At", l, d, v)
		err = wantReady(l, isTime(days.Lo) && isTime(days.Hi) && days.Lo <= days.Hi)
		counted[err]++
		b := ofBox(cheb.Box(l, days))
		may := span.Check(b.b.X) == api.OK && span.Check(b.b.Y) == api.OK && span.Check(b.b.Z) == api.OK
		check(t, b.err == err && may && (err == api.OK || b.refused(err)), "Box", l, days, b)
	}
	check(t, len(counted) == 4 && counted[api.OK] > 5000, counted)
}

func TestAnyLists(t *testing.T) {
	c := chance(30)
	counted := map[api.Errno]int{}
	for range 12000 {
		l := c.coefficients()
		if c.below(10) == 0 {
			l = make([]float64, 14+c.below(5))
		}
		for i := range l {
			l[i] = c.anyFloat(l[i])
		}
		err := poly.Check(l)
		counted[err]++
		fit := ofList(cheb.Fit(l))
		check(t, fit.err == err && len(fit.l) == 0 || err == api.OK && len(fit.l) == len(l), "Fit", l, fit)
		for _, x := range fit.l {
			check(t, grain.Fit(x), "Fit", l, fit)
		}
		p := ofPack(cheb.Pack(l))
		check(t, p.refused(err) || p.err == api.OK && err == api.OK && len(p.l) == len(l) && p.off >= 0, "Pack", l, p)
		check(t, poly.Check(wide(p.l)) == api.OK, "Pack", l, p)
		n := int(c.bits())
		check(t, n >= 1 && n <= 16 || ofList(cheb.Nodes(n)).refused(api.ErrArg), "Nodes", n)
	}
	check(t, len(counted) == 3 && counted[api.OK] > 5000, counted)
}
