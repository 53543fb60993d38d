package tot_test

import (
	"math"
	"math/big"
	"slices"
	"testing"

	"orrery/api"
	"orrery/grain"
	"orrery/tot"
)

var negZero = math.Copysign(0, -1)

func bits(x float64) uint64 { return math.Float64bits(x) }

// same: the same number, noughts only with the same sign.
func same(x, y float64) bool { return bits(x) == bits(y) }

// A sum is one of the calls that take one list.
type sum struct {
	name string
	call func([]float64) (float64, api.Errno)
	want func([]float64) float64
}

// sums: the calls, and what each is to answer, worked out by exact arithmetic that is rounded where the chapter says so.
func sums() []sum {
	return []sum{
		{"Left", tot.Left, wantLeft},
		{"Right", tot.Right, wantRight},
		{"Pairs", tot.Pairs, wantPairs},
		{"Kept", tot.Kept, wantKept},
		{"Exact", tot.Exact, wantExact},
	}
}

// precision holds every bit from 2^-504 to 2^408, and more.
const precision = 1200

func exact(x float64) *big.Float { return new(big.Float).SetPrec(precision).SetFloat64(x) }

// nearest: the number of binary64 nearest to x, ties to even; +0 for a nought.
func nearest(x *big.Float) float64 {
	n, _ := x.Float64()
	return n + 0
}

// plus: a + b, rounded.
func plus(a, b float64) float64 { return nearest(new(big.Float).Add(exact(a), exact(b))) }

func wantLeft(l []float64) float64 {
	s := 0.0
	for _, x := range l {
		s = plus(s, x)
	}
	return s
}

func wantRight(l []float64) float64 {
	s := 0.0
	for _, x := range slices.Backward(l) {
		s = plus(s, x)
	}
	return s
}

func wantPairs(l []float64) float64 {
	if len(l) == 0 {
		return 0
	}
	if len(l) == 1 {
		return l[0] + 0
	}
	return plus(wantPairs(l[:len(l)/2]), wantPairs(l[len(l)/2:]))
}

func wantKept(l []float64) float64 {
	s, k := 0.0, 0.0
	for _, x := range l {
		t := plus(s, x)
		great, small := s, x
		if math.Abs(s) < math.Abs(x) {
			great, small = x, s
		}
		k = plus(k, plus(plus(great, -t), small))
		s = t
	}
	return plus(s, k)
}

func exactSum(l []float64) *big.Float {
	s := exact(0)
	for _, x := range l {
		s.Add(s, exact(x))
	}
	return s
}

func exactDot(a, b []float64) *big.Float {
	s := exact(0)
	for i, x := range a {
		s.Add(s, new(big.Float).Mul(exact(x), exact(b[i])))
	}
	return s
}

func wantExact(l []float64) float64 { return nearest(exactSum(l)) }

// A chance answers numbers that depend on nothing but how many were asked for ahead of them.
type chance uint64

func (c *chance) bits() uint64 {
	*c = *c*6364136223846793005 + 1442695040888963407
	return uint64(*c ^ *c>>29)
}

func (c *chance) below(n int) int { return int(c.bits() >> 11 % uint64(n)) }

// number: one of this power of two, of either sign, with any digits or few.
func (c *chance) number(power int) float64 {
	fraction := c.bits() >> 12
	if c.below(3) == 0 {
		fraction &= 0xf << 48
	}
	return math.Float64frombits(c.bits()>>63<<63 | uint64(power+1023)<<52 | fraction)
}

// numbers: n of powers of two from low to high.
func (c *chance) numbers(n, low, high int) []float64 {
	var l []float64
	for range n {
		l = append(l, c.number(low+c.below(high-low+1)))
	}
	return l
}

// order: of so many things, any order of them.
func (c *chance) order(n int) []int {
	p := make([]int, n)
	for i := range n {
		j := c.below(i + 1)
		p[i], p[j] = p[j], i
	}
	return p
}

func (c *chance) shuffled(l []float64) []float64 { return picked(l, c.order(len(l))) }

func picked(l []float64, order []int) []float64 {
	var m []float64
	for _, i := range order {
		m = append(m, l[i])
	}
	return m
}

func negated(l []float64) []float64 {
	var m []float64
	for _, x := range l {
		m = append(m, -x)
	}
	return m
}

// fits: fit numbers at the ends of what is fit, about 1, and with few or all digits.
func fits() []float64 {
	l := []float64{
		0, 0x1p-200, grain.Next(0x1p-200), 0x1p-199, 0x1p-100, 0x1p-54, 0x1p-53, grain.Next(0x1p-53), 0x1p-52, 0.1, 0.25, 1.0 / 3,
		grain.Prev(1), 1, grain.Next(1), 1.5, 3, 10, math.Pi, 0x1p26 + 1, 0x1p27 + 1, 0x1p52, 0x1p53 - 1, 0x1p53, 0x1p60, 0x1p100,
		grain.Prev(0x1p200), 0x1p200,
	}
	return append(l, negated(l)...)
}

// unfit: numbers of which each is refused wherever it stands.
func unfit() []float64 {
	l := []float64{
		math.NaN(), math.Float64frombits(0x7ff0000000000001), math.Inf(1), math.MaxFloat64, 0x1p201, grain.Next(0x1p200),
		grain.Prev(0x1p-200), 0x1p-201, 0x1p-1022, 0x1p-1074,
	}
	return append(l, negated(l)...)
}

func holdsUnfit(l []float64) bool {
	return slices.ContainsFunc(l, func(x float64) bool { return !grain.Fit(x) })
}

// nearTies: lists whose exact sum lies in the middle between two numbers, or a little off it, told in several parts.
func nearTies() [][]float64 {
	var ls [][]float64
	for _, top := range []float64{1, grain.Next(1), grain.Prev(2), 1.5, 0x1p100, 0x1p-100, grain.Next(0x1p60), grain.Prev(0x1p199)} {
		up, down := grain.Ulp(top)/2, (grain.Prev(top)-top)/2
		for _, half := range []float64{up, down} {
			for _, little := range []float64{0, 0x1p-200, -0x1p-200, half * 0x1p-40, half * -0x1p-40, grain.Next(half*0x1p-46) * -1, half * 0x1p-52} {
				ls = append(ls,
					[]float64{top, half, little},
					[]float64{top, half / 2, half / 4, half / 4, little},
					[]float64{top * 0.75, top * 0.25, half * 2, half * -1, little},
					[]float64{top, half, little * 3, little * -2, little * -0.5},
				)
			}
		}
	}
	ls = slices.DeleteFunc(ls, holdsUnfit)
	for _, l := range ls {
		ls = append(ls, negated(l))
	}
	return ls
}

// cancelling: numbers beside their negatives, and a few that stay.
func (c *chance) cancelling(n, low, high int) []float64 {
	l := c.numbers(n, low, high)
	l = append(l, negated(l)...)
	return c.shuffled(append(l, c.numbers(c.below(4), low, high)...))
}

// lists: of every length that may be, of numbers near to each other, far from each other, and such that cancel each other.
func lists() [][]float64 {
	var c chance
	ls := append(nearTies(), nil, []float64{}, []float64{negZero}, []float64{negZero, negZero, negZero}, fits())
	for n := range api.MaxList + 1 {
		ls = append(ls, c.numbers(n, -200, 199), c.numbers(n, -3, 3), c.numbers(n, -60, 60))
	}
	for n := range 120 {
		ls = append(ls, c.cancelling(n, -200, 199), c.cancelling(n, -30, 30))
	}
	for n := range api.MaxList { // lone bits, close to each other or far apart
		var l []float64
		for i := range n + 1 {
			l = append(l, math.Ldexp(float64(1-2*(i%2)), 199-i*399/(n+1)))
		}
		ls = append(ls, c.shuffled(l))
	}
	full := slices.Repeat([]float64{0x1p200}, api.MaxList)
	return append(ls, full, negated(full))
}

// two: a pair of lists of one length.
type two struct{ a, b []float64 }

// twos: of every length that may be; sums of the products that are noughts, ties, or near to either.
func twos() []two {
	c := chance(7)
	ts := []two{{nil, []float64{}}, {[]float64{negZero}, []float64{3}}, {[]float64{0, 0}, []float64{negZero, -1}}}
	for _, x := range fits() {
		for _, y := range fits() {
			ts = append(ts, two{[]float64{x}, []float64{y}}, two{[]float64{x, -1}, []float64{y, float64(x * y)}})
		}
	}
	for n := range api.MaxList + 1 {
		ts = append(ts, two{c.numbers(n, -200, 199), c.numbers(n, -200, 199)}, two{c.numbers(n, -2, 2), c.numbers(n, -2, 2)})
	}
	for n := range 100 { // the sum of products is a little, of numbers that cancel each other but for a swap of factors
		a, b := c.numbers(n, -90, 90), c.numbers(n, -90, 90)
		t := two{append(slices.Clone(a), b...), append(slices.Clone(b), negated(a)...)}
		t.a, t.b = append(t.a, c.numbers(3, -90, -80)...), append(t.b, c.numbers(3, -90, -80)...)
		order := c.order(len(t.a))
		ts = append(ts, two{picked(t.a, order), picked(t.b, order)})
	}
	for _, l := range nearTies() {
		var b []float64
		for range l {
			b = append(b, 1)
		}
		ts = append(ts, two{l, b}, two{b, l})
	}
	return slices.DeleteFunc(ts, func(t two) bool { return holdsUnfit(t.a) || holdsUnfit(t.b) })
}

// P3.1.

func TestSums(t *testing.T) {
	for _, l := range lists() {
		if len(l) > api.MaxList {
			t.Fatalf("a list of %d", len(l))
		}
		for _, s := range sums() {
			got, err := s.call(l)
			if want := s.want(l); err != api.OK || !same(got, want) {
				t.Errorf("%s(%v): %v, %v, want %v", s.name, l, got, err, want)
			}
		}
	}
}

func TestDotAndSign(t *testing.T) {
	for _, p := range twos() {
		whole := exactDot(p.a, p.b)
		got, err := tot.Dot(p.a, p.b)
		if want := nearest(whole); err != api.OK || !same(got, want) {
			t.Errorf("Dot(%v, %v): %v, %v, want %v", p.a, p.b, got, err, want)
		}
		if sign, err := tot.Sign(p.a, p.b); err != api.OK || sign != whole.Sign() {
			t.Errorf("Sign(%v, %v): %v, %v, want %v", p.a, p.b, sign, err, whole.Sign())
		}
	}
}

// The order of each sum shows on lists on which the four differ.

func TestOrdersDiffer(t *testing.T) {
	for _, c := range []struct {
		l                               []float64
		left, right, pairs, kept, exact float64
	}{
		{[]float64{0x1p60, 1, -0x1p60, 1}, 1, 0, 0, 2, 2},
		{[]float64{1, 0x1p60, 1, -0x1p60}, 0, 1, 0, 2, 2}, // Kept: what is left of the lesser one, be it the sum or the number
		{[]float64{1, -0x1p60, 0x1p60}, 0, 1, 1, 1, 1},    // Pairs: of 3 the first 1
		{[]float64{0x1p60, -0x1p60, 1}, 1, 0, 0, 1, 1},
		{[]float64{3, 0x1p120, 0x1p60, -0x1p60, -0x1p120}, 0, 3, 0, 0, 3}, // Kept: what is kept is rounded too
		{[]float64{1, 0x1p60, 0x1p120, -0x1p60, -0x1p120}, 0, 0x1p60, 0x1p60, 0, 1},
		{[]float64{1, 0x1p120, 0x1p60, -0x1p120, -0x1p60}, -0x1p60, 1, 0, 0, 1},
		{[]float64{0x1p53, 1, 1, 1, 1}, 0x1p53, 0x1p53 + 4, 0x1p53 + 4, 0x1p53 + 4, 0x1p53 + 4},
		{[]float64{1, 0x1p-53, 0x1p-200}, 1, 1, 1, 1, 1 + 0x1p-52},
	} {
		for i, want := range []float64{c.left, c.right, c.pairs, c.kept, c.exact} {
			s := sums()[i]
			if got, err := s.call(c.l); err != api.OK || !same(got, want) {
				t.Errorf("%s(%v): %v, %v, want %v", s.name, c.l, got, err, want)
			}
		}
	}
}

// P3.1: answers that are noughts are +0.

func TestNoughtsHaveNoSign(t *testing.T) {
	ls := [][]float64{nil, {}, {0}, {negZero}, {negZero, negZero}, {negZero, 0, negZero}, {-1, 1}, {1, -1}, {negZero, -0x1p-200, 0x1p-200}}
	for _, l := range append(ls, slices.Repeat([]float64{negZero}, api.MaxList)) {
		for _, s := range sums() {
			if got, err := s.call(l); err != api.OK || !same(got, 0) {
				t.Errorf("%s(%v): %v, %v", s.name, l, got, err)
			}
		}
		for _, factor := range []float64{1, -1, 0x1p200} {
			factors := slices.Repeat([]float64{factor}, len(l))
			if got, err := tot.Dot(l, factors); err != api.OK || !same(got, 0) {
				t.Errorf("Dot(%v, %v): %v, %v", l, factors, got, err)
			}
			if sign, err := tot.Sign(factors, l); err != api.OK || sign != 0 {
				t.Errorf("Sign(%v, %v): %v, %v", factors, l, sign, err)
			}
		}
	}
}

// P3.2.

func TestNoOrderIsSeen(t *testing.T) {
	c := chance(2)
	for _, l := range lists() {
		want, _ := tot.Exact(l)
		other := c.shuffled(l)
		if got, err := tot.Exact(other); err != api.OK || !same(got, want) {
			t.Errorf("Exact(%v): %v, %v, but in another order %v", other, got, err, want)
		}
	}
	for _, p := range twos() {
		wantDot, _ := tot.Dot(p.a, p.b)
		wantSign, _ := tot.Sign(p.a, p.b)
		order := c.order(len(p.a))
		a, b := picked(p.a, order), picked(p.b, order)
		if got, err := tot.Dot(a, b); err != api.OK || !same(got, wantDot) {
			t.Errorf("Dot(%v, %v): %v, %v, but in another order %v", a, b, got, err, wantDot)
		}
		if got, err := tot.Sign(b, a); err != api.OK || got != wantSign {
			t.Errorf("Sign(%v, %v): %v, %v, but in another order %v", b, a, got, err, wantSign)
		}
	}
}

// P3.3.

// cut: x as the exact sum of two fit numbers, at random; x itself and a nought where the cut that came up is none.
func (c *chance) cut(x float64) (float64, float64) {
	part := math.Float64frombits(bits(x) &^ (1<<c.below(53) - 1)) // some of its digits
	if c.below(2) == 0 && x != 0 {
		part = c.number(min(max(math.Ilogb(x)+c.below(60)-30, -200), 199)) // one that may be greater than the whole
	}
	rest := x - part
	if !grain.Fit(rest) || exactSum([]float64{part, rest}).Cmp(exact(x)) != 0 {
		return x, negZero
	}
	return part, rest
}

func TestPartsAreNotSeen(t *testing.T) {
	c := chance(3)
	for _, l := range lists() {
		want, _ := tot.Exact(l)
		for len(l) > 0 && len(l) < api.MaxList { // cut on and on
			i := c.below(len(l))
			part, rest := c.cut(l[i])
			l = slices.Concat(l[:i], []float64{part}, l[i+1:])
			l = slices.Insert(l, c.below(len(l)+1), rest)
			if got, err := tot.Exact(l); err != api.OK || !same(got, want) {
				t.Errorf("Exact(%v): %v, %v, but ahead of the cut %v", l, got, err, want)
				break
			}
			if c.below(12) == 0 {
				break
			}
		}
	}
}

// P3.4.

func TestSigns(t *testing.T) {
	for _, p := range twos() {
		dot, _ := tot.Dot(p.a, p.b)
		sign, _ := tot.Sign(p.a, p.b)
		if dot < 0 && sign != -1 || dot > 0 && sign != 1 || dot == 0 && sign != 0 {
			t.Errorf("of %v and %v: Dot %v, Sign %v", p.a, p.b, dot, sign)
		}
		back, err := tot.Dot(negated(p.a), p.b)
		if err != api.OK || !same(back, 0-dot) {
			t.Errorf("Dot(%v, %v): %v, %v, but %v of the others negated", negated(p.a), p.b, back, err, dot)
		}
	}
	for _, l := range lists() {
		want, _ := tot.Exact(l)
		if got, err := tot.Exact(negated(l)); err != api.OK || !same(got, 0-want) {
			t.Errorf("Exact(%v): %v, %v, but %v of the others negated", negated(l), got, err, want)
		}
	}
}

// P3.5.

func TestUpToTwoAreOneAnswer(t *testing.T) {
	ls := [][]float64{nil}
	for _, x := range fits() {
		ls = append(ls, []float64{x})
		for _, y := range fits() {
			ls = append(ls, []float64{x, y})
		}
	}
	c := chance(5)
	for range 4000 {
		power := c.below(399) - 200
		ls = append(ls, c.numbers(2, power, min(power+c.below(60), 199)))
	}
	for _, l := range ls {
		want := wantExact(l)
		for _, s := range sums() {
			if got, err := s.call(l); err != api.OK || !same(got, want) {
				t.Errorf("%s(%v): %v, %v, want %v", s.name, l, got, err, want)
			}
		}
	}
}

// The errors, their order, and that nothing stands beside them.

func refusedByAll(t *testing.T, l []float64, want api.Errno) {
	t.Helper()
	for _, s := range sums() {
		if got, err := s.call(l); err != want || !same(got, 0) {
			t.Errorf("%s of %d numbers: %v, %v, want %v", s.name, len(l), got, err, want)
		}
	}
}

func refusedPair(t *testing.T, a, b []float64, want api.Errno) {
	t.Helper()
	if got, err := tot.Dot(a, b); err != want || !same(got, 0) {
		t.Errorf("Dot of %d and %d numbers: %v, %v, want %v", len(a), len(b), got, err, want)
	}
	if got, err := tot.Sign(a, b); err != want || got != 0 {
		t.Errorf("Sign of %d and %d numbers: %v, %v, want %v", len(a), len(b), got, err, want)
	}
}

// ones: n numbers 1; where at is a place, it holds x.
func ones(n, at int, x float64) []float64 {
	l := slices.Repeat([]float64{1}, n)
	if at < n {
		l[at] = x
	}
	return l
}

func TestLongListsAreRefused(t *testing.T) {
	most := ones(api.MaxList, 0, 1)
	for _, n := range []int{api.MaxList + 1, api.MaxList + 2, 2 * api.MaxList, 1 << 16} {
		for _, l := range [][]float64{ones(n, 0, 1), ones(n, 0, math.NaN()), ones(n, n-1, 0x1p201)} { // too long ahead of not fit
			refusedByAll(t, l, api.ErrLong)
			for _, other := range [][]float64{nil, {1}, most, l} { // and ahead of lengths that differ
				refusedPair(t, l, other, api.ErrLong)
				refusedPair(t, other, l, api.ErrLong)
			}
		}
	}
	for _, s := range sums() {
		if got, err := s.call(most); got != api.MaxList || err != api.OK {
			t.Errorf("%s of %d: %v, %v", s.name, len(most), got, err)
		}
	}
	if got, err := tot.Dot(most, most); got != api.MaxList || err != api.OK {
		t.Errorf("Dot of %d: %v, %v", len(most), got, err)
	}
	if got, err := tot.Sign(most, most); got != 1 || err != api.OK {
		t.Errorf("Sign of %d: %v, %v", len(most), got, err)
	}
}

func TestUnfitNumbersAreRefused(t *testing.T) {
	for _, x := range unfit() {
		for _, n := range []int{1, 2, 3, 17, api.MaxList} {
			for _, at := range []int{0, n / 2, n - 1} {
				l := ones(n, at, x)
				refusedByAll(t, l, api.ErrFit)
				for _, other := range [][]float64{ones(n, 0, 0), {}, ones(n-1, 0, 1), l} { // ahead of lengths that differ
					refusedPair(t, l, other, api.ErrFit)
					refusedPair(t, other, l, api.ErrFit)
				}
				long := ones(api.MaxList+1, 0, 1) // what is wrong with a comes ahead of what is wrong with b
				refusedPair(t, l, long, api.ErrFit)
				refusedPair(t, long, l, api.ErrLong)
			}
		}
	}
}

func TestListsOfTwoLengthsAreRefused(t *testing.T) {
	for _, n := range []int{0, 1, 2, 100, api.MaxList} {
		for _, m := range []int{0, 1, 2, 3, 101, api.MaxList - 1, api.MaxList} {
			if n != m {
				refusedPair(t, ones(n, 0, 1), ones(m, 0, 1), api.ErrArg)
			}
		}
	}
}

// P1: each call answers, whatever the bits and the lengths.

func TestAnyBits(t *testing.T) {
	c := chance(11)
	for i := range 3000 {
		a, b := make([]float64, c.below(300)), make([]float64, c.below(300))
		for j := range a {
			a[j] = math.Float64frombits(c.bits())
		}
		for j := range b {
			b[j] = c.number(c.below(400) - 200)
		}
		if i%2 == 0 {
			a = a[:min(len(a), 1)]
		}
		long, bad := len(a) > api.MaxList, holdsUnfit(a)
		want := api.OK
		if long {
			want = api.ErrLong
		} else if bad {
			want = api.ErrFit
		}
		for _, s := range sums() {
			if got, err := s.call(a); err != want || want != api.OK && !same(got, 0) {
				t.Errorf("%s(%v): %v, %v, want %v", s.name, a, got, err, want)
			}
		}
		if want == api.OK && len(b) > api.MaxList {
			want = api.ErrLong
		} else if want == api.OK && len(a) != len(b) {
			want = api.ErrArg
		}
		if _, err := tot.Dot(a, b); err != want {
			t.Errorf("Dot of %d and %d numbers: %v, want %v", len(a), len(b), err, want)
		}
		if _, err := tot.Sign(a, b); err != want {
			t.Errorf("Sign of %d and %d numbers: %v, want %v", len(a), len(b), err, want)
		}
	}
}

// What is handed in is not changed, its spare room neither.

func TestListsStayAsTheyWere(t *testing.T) {
	c := chance(13)
	for n := range 20 {
		room := c.numbers(20, -100, 100)
		before := slices.Clone(room)
		for _, s := range sums() {
			s.call(room[:n])
		}
		tot.Dot(room[:n], room[:n])
		tot.Sign(room[:n], room[20-n:])
		if !slices.Equal(room, before) {
			t.Errorf("of %d numbers: %v became %v", n, before, room)
		}
	}
}

// The chapter's examples.

func TestExamples(t *testing.T) {
	if got, err := tot.Dot([]float64{0x1p100, 1, -0x1p100}, []float64{1, 1, 1}); got != 1 || err != api.OK {
		t.Errorf("Dot: %v, %v", got, err)
	}
	if got, err := tot.Sign([]float64{0.1, -1}, []float64{10, 1}); got != 1 || err != api.OK {
		t.Errorf("Sign: %v, %v", got, err)
	}
	if got, err := tot.Dot([]float64{1}, []float64{1, 2}); got != 0 || err != api.ErrArg {
		t.Errorf("Dot of two lengths: %v, %v", got, err)
	}
	want := []float64{1, 0, 0, 2, 2}
	for i, s := range sums() {
		if got, err := s.call([]float64{0x1p60, 1, -0x1p60, 1}); got != want[i] || err != api.OK {
			t.Errorf("%s: %v, %v, want %v", s.name, got, err, want[i])
		}
	}
}
