package wave_test

import (
	"math"
	"math/big"
	"slices"
	"testing"

	"orrery/api"
	"orrery/grain"
	"orrery/turn"
	"orrery/wave"
)

const (
	least  = 0x1p-200 // the least magnitude above 0 that is fit
	loud   = 0x1p40   // the greatest magnitude of an Amp
	turns  = 0x1p10   // of Phase and of Rate
	latest = 0x1p24   // of a time
	age    = 0x1p16   // so many days are an age of 1
)

var negZero = math.Copysign(0, -1)

func at(x, y, z float64) api.Vec { return api.Vec{X: x, Y: y, Z: z} }

func to(lo, hi float64) api.Span { return api.Span{Lo: lo, Hi: hi} }

func point(x float64) api.Span { return to(x, x) }

// same: the same number, noughts only with the same sign.
func same(a, b float64) bool { return math.Float64bits(a) == math.Float64bits(b) }

func sameVec(a, b api.Vec) bool { return same(a.X, b.X) && same(a.Y, b.Y) && same(a.Z, b.Z) }

func sameSpan(a, b api.Span) bool { return same(a.Lo, b.Lo) && same(a.Hi, b.Hi) }

func sameBox(a, b api.Box) bool {
	return sameSpan(a.X, b.X) && sameSpan(a.Y, b.Y) && sameSpan(a.Z, b.Z)
}

func sameWave(a, b api.Wave) bool {
	return a.Axis == b.Axis && a.Power == b.Power && same(a.Amp, b.Amp) && same(a.Phase, b.Phase) && same(a.Rate, b.Rate)
}

// A toldNumber, a toldVec, a toldBox and a toldWaves are what a call answered.
type (
	toldNumber struct {
		x   float64
		err api.Errno
	}
	toldVec struct {
		v   api.Vec
		err api.Errno
	}
	toldBox struct {
		b   api.Box
		err api.Errno
	}
	toldWaves struct {
		l   []api.Wave
		off float64
		err api.Errno
	}
)

func ofNumber(x float64, err api.Errno) toldNumber               { return toldNumber{x, err} }
func ofVec(v api.Vec, err api.Errno) toldVec                     { return toldVec{v, err} }
func ofBox(b api.Box, err api.Errno) toldBox                     { return toldBox{b, err} }
func ofWaves(l []api.Wave, off float64, err api.Errno) toldWaves { return toldWaves{l, off, err} }
func (a toldNumber) is(x float64, err api.Errno) bool            { return same(a.x, x) && a.err == err }
func (a toldVec) is(v api.Vec, err api.Errno) bool               { return sameVec(a.v, v) && a.err == err }
func (a toldBox) is(b api.Box, err api.Errno) bool               { return sameBox(a.b, b) && a.err == err }
func (a toldNumber) refused(err api.Errno) bool                  { return a.is(0, err) }
func (a toldVec) refused(err api.Errno) bool                     { return a.is(api.Vec{}, err) }
func (a toldBox) refused(err api.Errno) bool                     { return a.is(api.Box{}, err) }
func (a toldWaves) refused(err api.Errno) bool                   { return a.is(nil, 0, err) }
func (a toldWaves) is(l []api.Wave, off float64, err api.Errno) bool {
	return slices.EqualFunc(a.l, l, sameWave) && same(a.off, off) && a.err == err
}

func check(t *testing.T, ok bool, tell ...any) {
	t.Helper()
	if !ok {
		t.Error(tell...)
	}
}

// A chance answers numbers that depend on nothing but how many were asked for ahead of them.
type chance uint64

func (c *chance) bits() uint64 {
	*c = *c*6364136223846793005 + 1442695040888963407
	return uint64(*c ^ *c>>29)
}

func (c *chance) below(n int) int { return int(c.bits() >> 11 % uint64(n)) }

// part: from 0 on, below 1.
func (c *chance) part() float64 { return float64(c.bits()>>11) / (1 << 53) }

func (c *chance) either(x float64) float64 {
	if c.below(2) == 0 {
		return -x
	}
	return x
}

// number: of a magnitude from 2^low on, below 2^high.
func (c *chance) number(low, high int) float64 {
	return c.either(math.Ldexp(1+c.part(), low+c.below(high-low)))
}

// some: a number that is at most greatest: 0, an end, of a few quarters, or another.
func (c *chance) some(greatest float64) float64 {
	switch c.below(8) {
	case 0:
		return c.either(0)
	case 1:
		return c.either(greatest)
	case 2:
		return c.either(least)
	case 3, 4:
		return float64(c.below(41)-20) / 4
	case 5:
		return c.number(-200, int(math.Log2(greatest)))
	}
	return c.number(-10, int(math.Log2(greatest)))
}

func (c *chance) time() float64 {
	if c.below(3) == 0 {
		return c.either(latest * c.part())
	}
	return c.some(latest)
}

func (c *chance) wave() api.Wave {
	return api.Wave{Axis: c.below(3), Power: c.below(3), Amp: c.some(loud), Phase: c.some(turns), Rate: c.some(turns)}
}

// waves: any, or (mostly) such whose Amps are of like magnitudes, so that no wave swallows the others.
func (c *chance) waves() []api.Wave {
	low := c.below(220) - 200
	tame := c.below(4) > 0
	l := make([]api.Wave, c.below(api.MaxWaves+1))
	for i := range l {
		l[i] = c.wave()
		if tame {
			l[i].Amp = c.number(low, low+20)
		}
	}
	return l
}

// The chapter's examples.

func two() []api.Wave {
	return []api.Wave{{Amp: 0.1, Rate: 1}, {Axis: 1, Power: 1, Amp: 3, Phase: 0.25}}
}

func TestExamples(t *testing.T) {
	v := ofVec(wave.At(two(), 0.5))
	check(t, v.is(at(-0.1, 0, 0), api.OK), "At", v)
	x := ofNumber(wave.Reach(two()))
	check(t, x.is(768.85009765625, api.OK), "Reach", x)
	n := two()
	n[0].Amp = 0.10000000149011612
	l := ofWaves(wave.Narrow(two()))
	check(t, l.is(n, 2.1893812041096083e-09, api.OK), "Narrow", l)
	check(t, wave.Check([]api.Wave{{Power: 3}}) == api.ErrWave, "Power 3")
	check(t, wave.Check(make([]api.Wave, 33)) == api.ErrLong, "33 waves")
}

// P12.1: what is taken.

// unfit: numbers that are never taken.
func unfit() []float64 {
	return []float64{
		math.NaN(), math.Float64frombits(0xfff0000000000123), math.Inf(1), math.Inf(-1), math.SmallestNonzeroFloat64,
		-math.SmallestNonzeroFloat64, grain.Prev(least), -grain.Prev(least), 0x1p-1000, grain.Next(0x1p200),
		-grain.Next(0x1p200), math.MaxFloat64, -math.MaxFloat64,
	}
}

// beyond: unfit numbers, and those above a greatest magnitude.
func beyond(greatest float64) []float64 {
	next := grain.Next(greatest)
	return append(unfit(), next, -next, 2*greatest, -2*greatest, 0x1p200, -0x1p200)
}

// upTo: numbers that are taken up to a greatest magnitude.
func upTo(greatest float64) []float64 {
	return []float64{0, negZero, least, -least, 0.1, -0.1, greatest, -greatest, grain.Prev(greatest), -grain.Prev(greatest)}
}

func wavesThatMayBe() (good, bad []api.Wave) {
	for _, n := range []int{0, 1, 2} {
		good = append(good, api.Wave{Axis: n, Amp: 1}, api.Wave{Power: n, Amp: 1})
	}
	for _, n := range []int{-1, 3, 4, 256, 1 << 32, math.MinInt, math.MaxInt} {
		bad = append(bad, api.Wave{Axis: n, Amp: 1}, api.Wave{Power: n, Amp: 1})
	}
	for _, f := range []struct {
		greatest float64
		of       func(x float64) api.Wave
	}{
		{loud, func(x float64) api.Wave { return api.Wave{Amp: x} }},
		{turns, func(x float64) api.Wave { return api.Wave{Amp: 1, Phase: x} }},
		{turns, func(x float64) api.Wave { return api.Wave{Amp: 1, Rate: x} }},
	} {
		for _, x := range upTo(f.greatest) {
			good = append(good, f.of(x))
		}
		for _, x := range beyond(f.greatest) {
			bad = append(bad, f.of(x))
		}
	}
	return good, bad
}

// refused: do all calls refuse waves so, whatever the time?
func refused(t *testing.T, l []api.Wave, err api.Errno) {
	t.Helper()
	check(t, wave.Check(l) == err, "Check", l)
	check(t, ofNumber(wave.Reach(l)).refused(err), "Reach", l)
	check(t, ofWaves(wave.Narrow(l)).refused(err), "Narrow", l)
	for _, d := range []float64{0, 1, 0x1p25, math.NaN()} {
		check(t, ofVec(wave.At(l, d)).refused(err), "At", l, d)
		check(t, ofBox(wave.Box(l, point(d))).refused(err), "Box", l, d)
	}
}

// taken: do all calls take waves?
func taken(t *testing.T, l []api.Wave) {
	t.Helper()
	check(t, wave.Check(l) == api.OK, "Check", l)
	check(t, ofNumber(wave.Reach(l)).err == api.OK, "Reach", l)
	check(t, ofWaves(wave.Narrow(l)).err == api.OK, "Narrow", l)
	for _, d := range upTo(latest) {
		check(t, ofVec(wave.At(l, d)).err == api.OK, "At", l, d)
		check(t, ofBox(wave.Box(l, point(d))).err == api.OK, "Box", l, d)
	}
}

func TestWavesThatMayBe(t *testing.T) {
	good, bad := wavesThatMayBe()
	taken(t, nil)
	taken(t, []api.Wave{})
	for _, w := range good {
		taken(t, []api.Wave{w})
	}
	for _, w := range bad {
		refused(t, []api.Wave{w}, api.ErrWave)
		refused(t, []api.Wave{{}, w}, api.ErrWave)
		last := make([]api.Wave, api.MaxWaves)
		last[api.MaxWaves-1] = w
		refused(t, last, api.ErrWave)
		refused(t, append(last, w), api.ErrLong)
	}
	for _, n := range []int{1, 2, api.MaxWaves - 1, api.MaxWaves} {
		taken(t, make([]api.Wave, n))
	}
	for _, n := range []int{api.MaxWaves + 1, 100, 5000} {
		refused(t, make([]api.Wave, n), api.ErrLong)
	}
}

func TestTimesThatMayNotBe(t *testing.T) {
	for _, l := range [][]api.Wave{nil, two(), make([]api.Wave, api.MaxWaves)} {
		for _, d := range beyond(latest) {
			check(t, ofVec(wave.At(l, d)).refused(api.ErrDate), "At", l, d)
			for _, s := range []api.Span{point(d), to(0, d), to(d, 0), to(-latest, d), to(d, latest)} {
				check(t, ofBox(wave.Box(l, s)).refused(api.ErrDate), "Box", l, s)
			}
		}
		for _, s := range []api.Span{to(1, 0), to(latest, -latest), to(least, -least), to(grain.Next(1), 1)} {
			check(t, ofBox(wave.Box(l, s)).refused(api.ErrDate), "Box", l, s)
		}
		check(t, ofBox(wave.Box(l, to(-latest, latest))).err == api.OK, "Box", l)
	}
}

// The chapter's words once more: each operation worked with the library's numbers of any length and rounded once.

func by(call func(z, x, y *big.Float) *big.Float, x, y float64) float64 {
	z, _ := call(new(big.Float).SetPrec(53), big.NewFloat(x), big.NewFloat(y)).Float64()
	return z
}

func plus(x, y float64) float64  { return by((*big.Float).Add, x, y) }
func minus(x, y float64) float64 { return by((*big.Float).Sub, x, y) }
func times(x, y float64) float64 { return by((*big.Float).Mul, x, y) }
func over(x, y float64) float64  { return by((*big.Float).Quo, x, y) }

func fitted(x float64) float64 {
	if -least < x && x < least {
		return 0
	}
	return x
}

// often: x times y, n times.
func often(x, y float64, n int) float64 {
	for range n {
		x = times(x, y)
	}
	return x
}

func wantAt(t *testing.T, l []api.Wave, d float64) api.Vec {
	t.Helper()
	var sums [3]float64
	for _, w := range l {
		c, err := turn.Cos(fitted(plus(w.Phase, times(w.Rate, d))))
		check(t, err == api.OK, w, d, err)
		sums[w.Axis] = plus(sums[w.Axis], often(times(w.Amp, c), over(d, 65536), w.Power))
	}
	return at(fitted(sums[0])+0, fitted(sums[1])+0, fitted(sums[2])+0)
}

func wantReach(l []api.Wave) float64 {
	sum := 0.0
	for _, w := range l {
		sum = plus(sum, often(math.Abs(w.Amp), 256, w.Power))
	}
	return times(sum, 1.0009765625)
}

func wantNarrow(l []api.Wave) ([]api.Wave, float64) {
	narrow := slices.Clone(l)
	sum := 0.0
	for i, w := range l {
		amp := float64(float32(w.Amp))
		narrow[i].Amp, narrow[i].Phase, narrow[i].Rate = amp+0, w.Phase+0, w.Rate+0
		sum = plus(sum, often(math.Abs(minus(w.Amp, amp)), 256, w.Power))
	}
	return narrow, plus(sum, over(wantReach(l), 0x1p40))
}

func TestSumsByTheChaptersWords(t *testing.T) {
	c := chance(1)
	for range 6000 {
		l := c.waves()
		for range 3 {
			d := c.time()
			v, want := ofVec(wave.At(l, d)), wantAt(t, l, d)
			check(t, v.is(want, api.OK), "At", l, d, v, want)
		}
		x, want := ofNumber(wave.Reach(l)), wantReach(l)
		check(t, x.is(want, api.OK), "Reach", l, x, want)
		narrow, off := wantNarrow(l)
		n := ofWaves(wave.Narrow(l))
		check(t, n.is(narrow, off, api.OK), "Narrow", l, n, narrow, off)
	}
}

func TestSumsWorkedOut(t *testing.T) {
	type l = []api.Wave
	root := math.Sqrt(0.5)
	for _, c := range []struct {
		l    l
		d    float64
		want api.Vec
	}{
		{nil, 5, at(0, 0, 0)},
		{l{{Amp: 3}}, 7, at(3, 0, 0)},
		{l{{Axis: 1, Amp: 3}}, 7, at(0, 3, 0)},
		{l{{Axis: 2, Amp: -3}}, 7, at(0, 0, -3)},
		{l{{Amp: 3, Phase: 0.25}}, 7, at(0, 0, 0)},
		{l{{Amp: 3, Phase: 0.5}}, 7, at(-3, 0, 0)},
		{l{{Amp: 3, Phase: -1023.5}}, 7, at(-3, 0, 0)},
		{l{{Amp: 3, Rate: 0.25}}, 6, at(-3, 0, 0)},
		{l{{Amp: 3, Rate: -0.25}}, 4, at(3, 0, 0)},
		{l{{Amp: 3, Phase: 0.25, Rate: 0.25}}, -3, at(-3, 0, 0)},
		{l{{Amp: 1, Phase: 0.125}}, 0, at(root, 0, 0)},
		{l{{Amp: 3, Rate: turns}}, latest, at(3, 0, 0)},
		{l{{Power: 1, Amp: 3}}, 0, at(0, 0, 0)}, // ages
		{l{{Power: 1, Amp: 3}}, age, at(3, 0, 0)},
		{l{{Power: 1, Amp: 3}}, -5 * age, at(-15, 0, 0)},
		{l{{Power: 2, Amp: 3}}, -5 * age, at(75, 0, 0)},
		{l{{Power: 2, Amp: -3, Phase: 0.5}}, age / 2, at(0.75, 0, 0)},
		{l{{Power: 2, Axis: 2, Amp: loud}}, latest, at(0, 0, 0x1p56)},
		{l{{Amp: 1}, {Amp: 2, Axis: 1}, {Amp: 3, Axis: 2}, {Amp: 4, Axis: 1, Phase: 0.5}, {Amp: 5}}, 1, at(6, -2, 3)}, // sums
		{l{{Amp: 1}, {Amp: 1, Phase: 0.5}}, 0, at(0, 0, 0)},
		{l{{Amp: 1}, {Power: 1, Amp: 1}, {Power: 2, Amp: 1}}, 3 * age, at(13, 0, 0)},
		{l{{Amp: loud}, {Amp: 0x1p-13}, {Amp: 0x1p-13}}, 0, at(loud, 0, 0)}, // in order
		{l{{Amp: 0x1p-13}, {Amp: 0x1p-13}, {Amp: loud}}, 0, at(loud+0x1p-12, 0, 0)},
		{l{{Amp: loud}, {Amp: 0x1p-13}, {Amp: -loud}}, 0, at(0, 0, 0)},
		{slices.Repeat(l{{Power: 2, Axis: 1, Amp: loud}}, api.MaxWaves), -latest, at(0, 0x1p61, 0)}, // above what a vector's numbers may be
		{slices.Repeat(l{{Power: 1, Axis: 1, Amp: loud}}, api.MaxWaves), -latest, at(0, -0x1p53, 0)},
	} {
		v := ofVec(wave.At(c.l, c.d))
		check(t, v.is(c.want, api.OK), "At", c.l, c.d, v, "not", c.want)
	}
}

// What is too small to be fit is 0 as an angle and as a sum, but not on the way to the sum.
func TestSmallSums(t *testing.T) {
	type l = []api.Wave
	root, _ := turn.Cos(0.125)
	for _, c := range []struct {
		l    l
		d    float64
		want float64
	}{
		{l{{Amp: least}}, 1, least},
		{l{{Amp: least, Phase: 0.125}}, 1, 0},
		{l{{Amp: least, Phase: 0.125}, {Amp: least, Phase: 0.125}}, 1, 2 * least * root},
		{l{{Amp: least, Phase: 0.375}, {Amp: least, Phase: 0.375}, {Amp: least, Phase: 0.25}}, 1, -2 * least * root},
		{l{{Amp: 2 * least}, {Amp: -least, Phase: 0.125}}, 1, least * (2 - root)},
		{l{{Amp: grain.Next(least)}, {Amp: -least}}, 1, 0},
		{l{{Power: 1, Amp: least}}, age, least},
		{l{{Power: 1, Amp: least}}, -age, -least},
		{l{{Power: 1, Amp: least}}, grain.Prev(age), 0},
		{l{{Power: 1, Amp: least}, {Amp: 3 * least}}, age / 2, 3.5 * least},
		{l{{Power: 1, Amp: least, Phase: 0.125}}, 2 * age, 2 * least * root}, // small ahead of the age alone
		{l{{Power: 2, Amp: least, Phase: 0.125}}, -2 * age, 4 * least * root},
		{l{{Power: 1, Amp: loud}}, least, 0x1p-176},
		{l{{Power: 1, Amp: loud}}, -least, -0x1p-176},
		{l{{Power: 2, Amp: loud}}, least, 0},
		{l{{Power: 2, Amp: loud}}, 0x1p-80, 0x1p-152},
		{l{{Amp: 3, Phase: least}}, 1, 3},
		{l{{Amp: 3, Rate: least}}, 0.5, 3}, // an angle of 2^-201
		{l{{Amp: 3, Rate: least}}, least, 3},
		{l{{Amp: 3, Phase: 0x1p-190, Rate: -grain.Next(0x1p-191)}}, 2, 3}, // an angle of -2^-242
	} {
		for axis := range 3 {
			k := slices.Clone(c.l)
			for i := range k {
				k[i].Axis = axis
			}
			var want [3]float64
			want[axis] = c.want
			v := ofVec(wave.At(k, c.d))
			check(t, v.is(at(want[0], want[1], want[2]), api.OK), "At", k, c.d, v, "not", c.want)
		}
	}
}

// Products are rounded ahead of the sums in which they stand: numbers of which fused sums would be others.
func TestNothingIsFused(t *testing.T) {
	x := 1 + 0x1p-27 // its square is 1 + 2^-26 + 2^-54: rounded, without the last
	v := ofVec(wave.At([]api.Wave{{Amp: 1, Phase: -0.75 - 0x1p-26, Rate: x}}, x))
	check(t, v.is(at(0, 0, 0), api.OK), "the angle", v)
	c, _ := turn.Cos(0.125)
	v = ofVec(wave.At([]api.Wave{{Amp: -times(0.1, c)}, {Amp: 0.1, Phase: 0.125}}, 0))
	check(t, v.is(at(0, 0, 0), api.OK), "a wave", v)
	for power := range 3 {
		d := 0.3 * age
		grown := often(0.1, over(d, age), power)
		v = ofVec(wave.At([]api.Wave{{Axis: 2, Amp: -grown}, {Axis: 2, Power: power, Amp: 0.1}}, d))
		check(t, v.is(at(0, 0, 0), api.OK), "a wave that grows", power, v)
	}
}

func TestReachWorkedOut(t *testing.T) {
	type l = []api.Wave
	slack := 1 + 0x1p-10
	for _, c := range []struct {
		l    l
		want float64
	}{
		{nil, 0},
		{l{{}}, 0},
		{l{{Amp: negZero}}, 0},
		{l{{Amp: 1}}, slack},
		{l{{Amp: -1, Phase: 0.25, Rate: 7}}, slack},
		{l{{Amp: 1, Power: 1}}, 256 * slack},
		{l{{Amp: -1, Power: 2}}, 65536 * slack},
		{l{{Amp: -1}, {Amp: 1, Axis: 1}, {Amp: 1, Axis: 2, Power: 1}}, 258 * slack}, // all axes alike
		{l{{Amp: least}}, least * slack},
		{l{{Amp: loud}, {Amp: 0x1p-13}, {Amp: 0x1p-13}}, loud * slack}, // in order
		{l{{Amp: 0x1p-13}, {Amp: 0x1p-13}, {Amp: loud}}, times(loud+0x1p-12, slack)},
		{slices.Repeat(l{{Amp: -loud, Power: 2}}, api.MaxWaves), 0x1p61 * slack},
	} {
		x := ofNumber(wave.Reach(c.l))
		check(t, x.is(c.want, api.OK), "Reach", c.l, x, "not", c.want)
	}
}

func TestNarrowWorkedOut(t *testing.T) {
	type l = []api.Wave
	rounding := (1 + 0x1p-10) / 0x1p40 // of an Amp of 1
	for _, c := range []struct{ amp, narrow, rest float64 }{
		{0, 0, 0},
		{negZero, 0, 0},
		{3, 3, 0},
		{-3, -3, 0},
		{loud, loud, 0},
		{grain.Prev(loud), loud, 0x1p-13},
		{-grain.Prev(loud), -loud, 0x1p-13},
		{1 + 0x1p-24, 1, 0x1p-24}, // of two equally near ones the even one
		{1 + 0x1.8p-23, 1 + 0x1p-22, 0x1p-24},
		{0.1, 0.10000000149011612, 1.4901161138336505e-09},
		{0x1p-149, 0x1p-149, 0}, // the least of binary32
		{0x1.8p-149, 0x1p-148, 0x1p-150},
		{0x1p-150, 0, 0x1p-150},
		{-0x1p-150, 0, 0x1p-150},
		{grain.Next(0x1p-150), 0x1p-149, 0x1p-149 - grain.Next(0x1p-150)},
		{least, 0, least},
		{-least, 0, least},
	} {
		for power := range 3 {
			w := api.Wave{Axis: 2 - power, Power: power, Amp: c.amp, Phase: 0.1, Rate: -0.1}
			want := w
			want.Amp = c.narrow
			grown := math.Ldexp(1, 8*power)
			off := plus(c.rest*grown, times(math.Abs(c.amp*grown), rounding))
			n := ofWaves(wave.Narrow(l{w}))
			check(t, n.is(l{want}, off, api.OK), "Narrow", w, n, "not", want, off)
		}
	}
	n := ofWaves(wave.Narrow(nil))
	check(t, n.is(nil, 0, api.OK), "Narrow", n)
	n = ofWaves(wave.Narrow(l{{Amp: 1 + 0x1p-24}, {Axis: 1, Power: 1, Amp: -1 - 0x1p-24}, {Axis: 2, Amp: 2, Phase: 0.1, Rate: 0.1}}))
	off := 0x1p-24 + 0x1p-16 + (259+0x1p-24+0x1p-16)*rounding
	check(t, n.is(l{{Amp: 1}, {Axis: 1, Power: 1, Amp: -1}, {Axis: 2, Amp: 2, Phase: 0.1, Rate: 0.1}}, off, api.OK), "Narrow", n, "not", off)
}
