package step_test

import (
	"math"
	"math/big"
	"slices"
	"testing"

	"orrery/api"
	"orrery/step"
)

// The greatest that are taken, and the greatest number of a pull.
const (
	heavy  = int64(1) << 20
	far    = int64(1) << 40
	hard   = int64(1) << 50
	strong = 0x1p40
	tug    = int64(1) << 32
)

var negZero = math.Copysign(0, -1)

// mass: one on the first axis.
func mass(m, x, p int64) api.Mass {
	return api.Mass{M: m, X: [3]int64{x}, P: [3]int64{p}}
}

// same: the same number, noughts only with the same sign.
func same(a, b float64) bool { return math.Float64bits(a) == math.Float64bits(b) }

// A toldMasses, a toldSum and a toldNumber are what a call answered.
type (
	toldMasses struct {
		l   []api.Mass
		err api.Errno
	}
	toldSum struct {
		s   [3]int64
		err api.Errno
	}
	toldNumber struct {
		x   float64
		err api.Errno
	}
)

func ofMasses(l []api.Mass, err api.Errno) toldMasses    { return toldMasses{l, err} }
func ofSum(s [3]int64, err api.Errno) toldSum            { return toldSum{s, err} }
func ofNumber(x float64, err api.Errno) toldNumber       { return toldNumber{x, err} }
func (a toldMasses) is(l []api.Mass, err api.Errno) bool { return slices.Equal(a.l, l) && a.err == err }
func (a toldSum) is(x, y, z int64, err api.Errno) bool   { return a == toldSum{[3]int64{x, y, z}, err} }
func (a toldNumber) is(x float64, err api.Errno) bool    { return same(a.x, x) && a.err == err }
func (a toldMasses) refused(err api.Errno) bool          { return a.is(nil, err) }
func (a toldSum) refused(err api.Errno) bool             { return a.is(0, 0, 0, err) }
func (a toldNumber) refused(err api.Errno) bool          { return a.is(0, err) }
func run(l []api.Mass, g float64, n int) toldMasses      { return ofMasses(step.Run(l, g, n)) }
func sum(l []api.Mass) toldSum                           { return ofSum(step.Sum(l)) }
func energy(l []api.Mass, g float64) toldNumber          { return ofNumber(step.Energy(l, g)) }
func runs(t *testing.T, l []api.Mass, g float64, n int, want ...api.Mass) {
	t.Helper()
	got := run(l, g, n)
	check(t, got.is(want, api.OK), "Run", l, g, n, got, "and should be", want)
}

func check(t *testing.T, ok bool, tell ...any) {
	t.Helper()
	if !ok {
		t.Error(tell...)
	}
}

// A chance answers numbers that depend on nothing but how many were asked for ahead of them.
type chance uint64

func (c *chance) bits() uint64 {
	*c = *c*6364136223846793005 + 1442695040888963407
	return uint64(*c ^ *c>>29)
}

func (c *chance) below(n int64) int64 { return int64(c.bits() >> 11 % uint64(n)) }

// part: from 0 on, below 1.
func (c *chance) part() float64 { return float64(c.bits()>>11) / (1 << 53) }

func (c *chance) either(x int64) int64 {
	if c.below(2) == 0 {
		return -x
	}
	return x
}

// whole: of a magnitude of at most greatest, as often small as great.
func (c *chance) whole(greatest int64) int64 {
	x := c.below(greatest + 1)
	if c.below(4) > 0 {
		x >>= c.below(50)
	}
	return c.either(x)
}

func (c *chance) three(greatest int64) [3]int64 {
	return [3]int64{c.whole(greatest), c.whole(greatest), c.whole(greatest)}
}

// masses: up to the ends of what is taken.
func (c *chance) masses() []api.Mass {
	l := make([]api.Mass, c.below(api.MaxGrid+1))
	for i := range l {
		l[i] = api.Mass{M: max(1, c.below(heavy+1)>>c.below(21)), X: c.three(far), P: c.three(hard)}
	}
	return l
}

// g: from 0 to its end.
func (c *chance) g() float64 {
	switch c.below(8) {
	case 0:
		return 0
	case 1:
		return strong
	case 2:
		return math.Ldexp(c.part(), -1000)
	}
	return math.Ldexp(c.part(), int(c.below(81))-40)
}

// tame: masses that draw one another and stay on the grid for many steps.
func (c *chance) tame() ([]api.Mass, float64) {
	l := make([]api.Mass, 2+c.below(api.MaxGrid-1))
	wide := int64(1) << (12 + c.below(18))
	for i := range l {
		l[i] = api.Mass{M: 1 + c.below(1<<12), X: c.three(wide)}
		for k := range 3 {
			l[i].P[k] = c.either(c.below(wide)) >> 8 * l[i].M
		}
	}
	return l, math.Ldexp(c.part(), 10+int(c.below(30)))
}

// The chapter's examples.

func two() []api.Mass {
	return []api.Mass{{M: 1000}, {M: 1, X: [3]int64{1048576, 0, 0}, P: [3]int64{0, 1000, 0}}}
}

func TestExamples(t *testing.T) {
	behind := []api.Mass{{M: 1000, P: [3]int64{909, 0, 0}}, {M: 1, X: [3]int64{1048121, 1000, 0}, P: [3]int64{-909, 1000, 0}}}
	runs(t, two(), 1e12, 1, behind...)
	runs(t, behind, 1e12, -1, two()...)
	check(t, step.Check([]api.Mass{{}}) == api.ErrGrid, "M 0")
	check(t, run(two(), 0, 4097).refused(api.ErrArg), "4097 steps")
	check(t, run(two(), math.NaN(), 1).refused(api.ErrArg), "a NaN")
}

// P14.1: what is taken.

// massesThatMayBe: some at the ends of each number of a mass, and some beyond.
func massesThatMayBe() (good, bad []api.Mass) {
	for _, m := range []int64{1, 2, 1000, heavy - 1, heavy} {
		good = append(good, api.Mass{M: m})
	}
	for _, m := range []int64{0, -1, -heavy, heavy + 1, 1<<32 + 1, 1 << 62, math.MinInt64, math.MaxInt64} {
		bad = append(bad, api.Mass{M: m})
	}
	for k := range 3 {
		for _, end := range []int64{far, hard} {
			of := func(x int64) api.Mass {
				m := api.Mass{M: heavy}
				if end == far {
					m.X[k] = x
				} else {
					m.P[k] = x
				}
				return m
			}
			for _, x := range []int64{1, -1, 1 - end, -end, end - 1, end} {
				good = append(good, of(x))
			}
			for _, x := range []int64{end + 1, -end - 1, 2 * end, -2 * end, math.MaxInt64, math.MinInt64, math.MinInt64 + 1} {
				bad = append(bad, of(x))
			}
		}
	}
	return good, bad
}

// refused: do all calls refuse masses so, whatever else they are handed?
func refused(t *testing.T, l []api.Mass, err api.Errno) {
	t.Helper()
	check(t, step.Check(l) == err, "Check", l)
	check(t, sum(l).refused(err), "Sum", l)
	for _, g := range []float64{0, 1, -1, math.NaN()} {
		check(t, energy(l, g).refused(err), "Energy", l, g)
		for _, n := range []int{0, 1, -1, 4097, math.MinInt} {
			check(t, run(l, g, n).refused(err), "Run", l, g, n)
		}
	}
}

// taken: do all calls take masses?
func taken(t *testing.T, l []api.Mass) {
	t.Helper()
	check(t, step.Check(l) == api.OK, "Check", l)
	check(t, sum(l).err == api.OK, "Sum", l)
	check(t, energy(l, 1).err == api.OK, "Energy", l)
	runs(t, l, 1, 0, l...)
}

func TestMassesThatMayBe(t *testing.T) {
	good, bad := massesThatMayBe()
	taken(t, nil)
	taken(t, []api.Mass{})
	for _, m := range good {
		taken(t, []api.Mass{m})
		taken(t, slices.Repeat([]api.Mass{m}, api.MaxGrid))
	}
	for _, m := range bad {
		refused(t, []api.Mass{m}, api.ErrGrid)
		refused(t, []api.Mass{{M: 1}, m}, api.ErrGrid)
		last := slices.Repeat([]api.Mass{{M: 1}}, api.MaxGrid)
		last[api.MaxGrid-1] = m
		refused(t, last, api.ErrGrid)
		refused(t, append(last, m), api.ErrLong)
	}
	for _, n := range []int{api.MaxGrid + 1, 100, 5000} {
		refused(t, make([]api.Mass, n), api.ErrLong)
		refused(t, slices.Repeat([]api.Mass{{M: 1}}, n), api.ErrLong)
	}
}

func TestStepsAndGThatMayBe(t *testing.T) {
	at := []api.Mass{{M: 1}}
	off := []api.Mass{mass(1, far, 2)} // gone behind any step
	good := []float64{0, negZero, math.SmallestNonzeroFloat64, 0x1p-300, 1, math.Nextafter(strong, 0), strong}
	for _, n := range []int{4097, -4097, 5000, 1<<32 + 1, -1 << 32, math.MaxInt, math.MinInt, math.MinInt + 1} {
		for _, l := range [][]api.Mass{nil, at, off} {
			check(t, run(l, 1, n).refused(api.ErrArg), "Run", l, n)
		}
	}
	for _, g := range good {
		check(t, energy(at, g).is(0, api.OK), "Energy", g)
		for _, n := range []int{0, 1, -1, 4096, -4096} {
			runs(t, at, g, n, at...)
			runs(t, nil, g, n)
		}
	}
	for _, g := range []float64{
		math.NaN(), math.Float64frombits(0xfff0000000000123), math.Inf(1), math.Inf(-1), -math.SmallestNonzeroFloat64,
		-1, -strong, math.Nextafter(strong, math.Inf(1)), 2 * strong, math.MaxFloat64,
	} {
		for _, l := range [][]api.Mass{nil, at, off} {
			check(t, energy(l, g).refused(api.ErrArg), "Energy", l, g)
			for _, n := range []int{0, 1, 4097} {
				check(t, run(l, g, n).refused(api.ErrArg), "Run", l, g, n)
			}
		}
	}
}

// The chapter's words once more: each operation worked with the library's numbers of any length and rounded once.

func once(z *big.Float) float64 {
	x, _ := z.Float64()
	return x
}

func by(call func(z, x, y *big.Float) *big.Float, x, y float64) float64 {
	return once(call(new(big.Float).SetPrec(53), big.NewFloat(x), big.NewFloat(y)))
}

func plus(x, y float64) float64  { return by((*big.Float).Add, x, y) }
func minus(x, y float64) float64 { return by((*big.Float).Sub, x, y) }
func times(x, y float64) float64 { return by((*big.Float).Mul, x, y) }
func over(x, y float64) float64  { return by((*big.Float).Quo, x, y) }
func root(x float64) float64     { return once(new(big.Float).SetPrec(53).Sqrt(big.NewFloat(x))) }

// nearest: to the nearest whole number, halves away from 0; the half is added and the sum rounded ahead.
func nearest(x float64) int64 {
	if x < 0 {
		return -nearest(-x)
	}
	n, _ := big.NewFloat(plus(x, 0.5)).Int64() // to the whole number below
	return n
}

// wantFar: the chapter's L, and the way from a to b.
func wantFar(a, b api.Mass) (float64, [3]float64) {
	var d [3]float64
	for k := range d {
		d[k] = minus(float64(b.X[k]), float64(a.X[k]))
	}
	return plus(plus(plus(0x1p20, times(d[0], d[0])), times(d[1], d[1])), times(d[2], d[2])), d
}

// wantOf: g times the two masses.
func wantOf(a, b api.Mass, g float64) float64 { return times(g, times(float64(a.M), float64(b.M))) }

func wantPull(a, b api.Mass, g float64) [3]int64 {
	l, d := wantFar(a, b)
	f := over(wantOf(a, b, g), times(l, root(l)))
	var p [3]int64
	for k := range p {
		x := times(f, d[k])
		switch {
		case x > 0x1p32:
			p[k] = tug
		case x < -0x1p32:
			p[k] = -tug
		default:
			p[k] = nearest(x)
		}
	}
	return p
}

func wantDrift(l []api.Mass, h int64) {
	for i, m := range l {
		for k := range 3 {
			l[i].X[k] += h * nearest(over(float64(m.P[k]), times(2, float64(m.M))))
		}
	}
}

func wantKick(l []api.Mass, g float64, h int64) {
	for i := range l {
		for j := i + 1; j < len(l); j++ {
			for k, p := range wantPull(l[i], l[j], g) {
				l[i].P[k] += h * p
				l[j].P[k] -= h * p
			}
		}
	}
}

func onGrid(l []api.Mass) bool {
	for _, m := range l {
		for k := range 3 {
			if max(m.X[k], -m.X[k]) > far || max(m.P[k], -m.P[k]) > hard {
				return false
			}
		}
	}
	return true
}

// wantRun: the masses behind n steps, and whether they were on the grid all the way.
func wantRun(l []api.Mass, g float64, n int) ([]api.Mass, bool) {
	l = slices.Clone(l)
	h := int64(1)
	if n < 0 {
		h, n = -1, -n
	}
	for range n {
		for part := range 3 {
			if part == 1 {
				wantKick(l, g, h)
			} else {
				wantDrift(l, h)
			}
			if !onGrid(l) {
				return nil, false
			}
		}
	}
	return l, true
}

func wantEnergy(l []api.Mass, g float64) float64 {
	e := 0.0
	for _, m := range l {
		squares := 0.0
		for _, p := range m.P {
			squares = plus(squares, times(float64(p), float64(p)))
		}
		e = plus(e, over(squares, times(2, float64(m.M))))
	}
	for i, a := range l {
		for _, b := range l[i+1:] {
			far, _ := wantFar(a, b)
			e = minus(e, over(wantOf(a, b, g), root(far)))
		}
	}
	return e
}

// holds: does Run answer by the chapter's words? And did the masses stay?
func holds(t *testing.T, l []api.Mass, g float64, n int) bool {
	t.Helper()
	got := run(l, g, n)
	want, ok := wantRun(l, g, n)
	if ok {
		check(t, got.is(want, api.OK), "Run", l, g, n, got, "and should be", want)
	} else {
		check(t, got.refused(api.ErrGrid), "Run", l, g, n, got, "and should be refused")
	}
	return ok
}

// P14.1: the answers.

func TestRunByTheChaptersWords(t *testing.T) {
	c := chance(141)
	stayed, left := 0, 0
	for range 4000 {
		l, g, n := c.masses(), c.g(), int(c.below(7))-3
		if holds(t, l, g, n) {
			stayed++
		} else {
			left++
		}
	}
	check(t, stayed > 1000 && left > 500, stayed, "stayed,", left, "left")
	for range 300 {
		l, g := c.tame()
		holds(t, l, g, int(c.either(c.below(60))))
	}
	for range 2 {
		l, g := c.tame()
		holds(t, l, g, 4096)
		holds(t, l, g, -4096)
	}
}

// ofPull: what the first of two masses on one axis gets from the other within a step.
func ofPull(t *testing.T, a, b api.Mass, g float64) int64 {
	t.Helper()
	got := run([]api.Mass{a, b}, g, 1)
	check(t, got.err == api.OK, a, b, g, got)
	if got.err != api.OK {
		return 0
	}
	return got.l[0].P[0]
}

// Pulls near to halves tell the least difference on the way to them.
func TestPullsNearHalves(t *testing.T) {
	c := chance(142)
	up, down := 0, 0
	for range 20000 {
		wide := int64(1) << (4 + c.below(36))
		a := api.Mass{M: 1 + c.below(heavy), X: c.three(wide)}
		b := api.Mass{M: 1 + c.below(heavy), X: c.three(wide)}
		half := float64(c.below(1<<(1+c.below(31)))) + 0.5
		l, d := wantFar(a, b)
		g := half / math.Abs(d[0]) * l * math.Sqrt(l) / float64(a.M*b.M)
		for range c.below(5) {
			g = math.Nextafter(g, float64(c.below(2))*strong)
		}
		if !(g <= strong) {
			continue
		}
		p := wantPull(a, b, g)
		// the masses rest at first, so that the pull is told by what they have behind the step
		got := run([]api.Mass{a, b}, g, 1)
		check(t, got.err == api.OK && got.l[0].P == p && got.l[1].P == [3]int64{-p[0], -p[1], -p[2]}, "pull", a, b, g, got, "and should be", p)
		if math.Abs(float64(p[0])) > half {
			up++
		} else {
			down++
		}
	}
	check(t, up > 2000 && down > 2000, up, "up,", down, "down")
}

// gOf: a g by which two masses of 1 so far apart draw one another by just x, if there is one.
func gOf(x float64, way int64) (float64, bool) {
	l, d := wantFar(mass(1, 0, 0), mass(1, way, 0))
	of := func(g float64) float64 { return times(over(g, times(l, root(l))), d[0]) }
	g := x / d[0] * l * math.Sqrt(l)
	for of(g) > x {
		g = math.Nextafter(g, 0)
	}
	for of(g) < x {
		g = math.Nextafter(g, math.Inf(1))
	}
	return g, of(g) == x
}

// The number just below 1/2 makes 1, since its sum with 1/2 is rounded to 1.
func TestPullJustBelowAHalf(t *testing.T) {
	under := math.Nextafter(0.5, 0)
	for _, c := range []struct {
		x float64
		p int64
	}{{0.5, 1}, {under, 1}, {math.Nextafter(under, 0), 0}, {1.5, 2}, {2.5, 3}, {math.Nextafter(1.5, 0), 1}, {math.Nextafter(2.5, 0), 2}} {
		found := 0
		for way := range int64(1000) {
			g, ok := gOf(c.x, way+1<<19)
			if !ok {
				continue
			}
			found++
			a, b := mass(1, 0, 0), mass(1, way+1<<19, 0)
			check(t, ofPull(t, a, b, g) == c.p && ofPull(t, b, a, g) == -c.p, "pull of", c.x, "by", g)
		}
		check(t, found > 100, "pull of", c.x, "was found", found, "times")
	}
}

func TestDriftAtHalves(t *testing.T) {
	for _, c := range []struct{ m, p, by int64 }{
		{1, 1, 1}, {1, 2, 1}, {1, 3, 2}, {1, 4, 2}, {1, 5, 3}, {2, 1, 0}, {2, 2, 1}, {2, 3, 1}, {2, 5, 1}, {2, 6, 2}, {2, 10, 3},
		{3, 2, 0}, {3, 3, 1}, {3, 4, 1}, {3, 8, 1}, {3, 9, 2}, {3, 15, 3}, {heavy, heavy - 1, 0}, {heavy, heavy, 1},
		{heavy, 3*heavy - 1, 1}, {heavy, 3 * heavy, 2}, {heavy, hard, 1 << 29}, {heavy, hard - heavy, 1 << 29}, {heavy, hard - heavy - 1, 1<<29 - 1},
		{1 << 10, hard, 1 << 39}, {1 << 10, hard - 1024, 1 << 39}, {1 << 10, hard - 1025, 1<<39 - 1},
		{3, 3*(1<<40) - 3, 1 << 39}, {3, 3*(1<<40) - 4, 1<<39 - 1}, {1, 0, 0},
	} {
		for h := -1; h <= 1; h += 2 {
			sign := int64(h)
			runs(t, []api.Mass{mass(c.m, 0, c.p)}, 1, h, mass(c.m, 2*sign*c.by, c.p))
			runs(t, []api.Mass{mass(c.m, 0, -c.p)}, 1, h, mass(c.m, -2*sign*c.by, -c.p))
			start := sign * min(0, far-4*c.by) // from where the last step ends on the grid
			runs(t, []api.Mass{mass(c.m, start, c.p)}, 0, 2*h, mass(c.m, start+4*sign*c.by, c.p))
		}
	}
}

// Each number of a pull is held by its ends by itself; the numbers next to the ends stay as they are.
func TestStrongestPull(t *testing.T) {
	a, b := api.Mass{M: heavy}, api.Mass{M: heavy, X: [3]int64{700, -3, 0}}
	got := run([]api.Mass{a, b}, strong, 1)
	check(t, got.err == api.OK && got.l[0].P == [3]int64{tug, -tug, 0} && got.l[1].P == [3]int64{-tug, tug, 0}, got)
	c, d := mass(heavy, 0, 0), mass(heavy, 1024, 0)
	l, way := wantFar(c, d)
	for _, x := range []struct {
		near float64
		p    int64
	}{
		{0x1p32 - 2, tug - 2}, {0x1p32 - 1, tug - 1}, {0x1p32, tug}, {0x1p32 + 1, tug}, {0x1p32 + 100, tug}, {0x1p33, tug}, {0x1p60, tug},
	} {
		g := min(strong, x.near/way[0]*l*math.Sqrt(l)/0x1p40)
		check(t, ofPull(t, c, d, g) == x.p && ofPull(t, d, c, g) == -x.p, "pull of", x.near)
	}
}

// Two masses at one place don't draw one another.
func TestPullOfNoWay(t *testing.T) {
	for _, x := range []int64{0, 5, -far, far} {
		at := []api.Mass{mass(heavy, x, 0), mass(heavy, x, 0)}
		runs(t, at, strong, 4096, at...)
	}
}

func TestSum(t *testing.T) {
	check(t, sum(nil).is(0, 0, 0, api.OK), "of none")
	check(t, sum(two()).is(0, 1000, 0, api.OK), "of two")
	m := api.Mass{M: 1, P: [3]int64{hard, -hard, hard - 1}}
	check(t, sum(slices.Repeat([]api.Mass{m}, 8)).is(8*hard, -8*hard, 8*hard-8, api.OK), "of the greatest")
	c := chance(143)
	for range 2000 {
		l := c.masses()
		var want [3]int64
		for _, m := range l {
			want = [3]int64{want[0] + m.P[0], want[1] + m.P[1], want[2] + m.P[2]}
		}
		check(t, sum(l).is(want[0], want[1], want[2], api.OK), "Sum", l, sum(l), want)
	}
}

func TestEnergy(t *testing.T) {
	check(t, energy(nil, 1).is(0, api.OK), "of none")
	check(t, energy(two(), 0).is(500000, api.OK), "of two, apart")
	at := []api.Mass{{M: 2, P: [3]int64{3, 0, 4}}, {M: 3}}
	check(t, energy(at, 1024).is(0.25, api.OK), "of two at one place") // 25 / 4 less 1024 times 6 / 1024
	for _, g := range []float64{0, negZero, math.SmallestNonzeroFloat64} {
		check(t, energy(two()[:1], g).is(0, api.OK), "of one at rest")
		check(t, energy([]api.Mass{{M: 1}, {M: 1}}, g).is(0, api.OK), "of two at rest")
	}
	c := chance(144)
	above, under := 0, 0
	for range 10000 {
		l, g := c.masses(), c.g()
		if c.below(2) == 0 {
			l, g = c.tame()
		}
		want := wantEnergy(l, g)
		got := energy(l, g)
		check(t, got.is(want, api.OK), "Energy", l, g, got, "and should be", want)
		if want > 0 {
			above++
		} else if want < 0 {
			under++
		}
	}
	check(t, above > 3000 && under > 500, above, "above 0,", under, "below")
}
