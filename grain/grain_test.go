package grain_test

import (
	"math"
	"math/big"
	"testing"

	"orrery/grain"
)

const (
	theNaN   = 0x7ff8000000000000
	theNaN32 = 0x7fc00000
)

var negZero = math.Copysign(0, -1)

func of(bits uint64) float64   { return math.Float64frombits(bits) }
func of32(bits uint32) float32 { return math.Float32frombits(bits) }
func bits(x float64) uint64    { return math.Float64bits(x) }
func bits32(x float32) uint32  { return math.Float32bits(x) }

// nans are of either sign, quiet and signalling, with the least and the greatest fractions.
func nans() []float64 {
	var l []float64
	for _, f := range []uint64{1, 2, 1 << 50, 1<<51 - 1, 1 << 51, 1<<51 + 1, 1<<52 - 1} {
		l = append(l, of(0x7ff<<52|f), of(0xfff<<52|f))
	}
	return l
}

func nans32() []float32 {
	var l []float32
	for _, f := range []uint32{1, 2, 1 << 21, 1<<22 - 1, 1 << 22, 1<<22 + 1, 1<<23 - 1} {
		l = append(l, of32(0xff<<23|f), of32(0x1ff<<23|f))
	}
	return l
}

// ladder: the edges, from the lowest place to the highest one that isn't a NaN's.
func ladder() []float64 {
	up := []float64{
		of(1), of(2), 0x1p-1022 - 0x1p-1074, 0x1p-1022, of(0x0010000000000001), 0x1p-201,
		of(0x3370000000000000 - 1), 0x1p-200, of(0x3370000000000001), 0x1p-150, 0x1p-149, 0x1p-126,
		0.1, of(0x3fefffffffffffff), 1, of(0x3ff0000000000001), 1.5, 2, 3, 0x1p127, math.MaxFloat32,
		0x1p128 - 0x1p103, 0x1p128, of(0x4c70000000000000 - 1), 0x1p200, of(0x4c70000000000001), 0x1p201,
		1e300, of(0x7feffffffffffffe), math.MaxFloat64, math.Inf(1),
	}
	var l []float64
	for i := range up {
		l = append(l, -up[len(up)-1-i])
	}
	return append(append(l, negZero, 0), up...)
}

// sweep: numbers of every exponent and either sign, with fractions at the ends, in the middle, and scattered.
func sweep() []float64 {
	l := append(ladder(), nans()...)
	scattered := uint64(1)
	for exponent := range uint64(2048) {
		for _, f := range []uint64{0, 1, 2, 1<<28 - 1, 1 << 28, 1<<28 + 1, 3 << 28, 1 << 51, 1<<52 - 2, 1<<52 - 1} {
			l = append(l, of(exponent<<52|f), of(1<<63|exponent<<52|f))
		}
		for range 8 {
			scattered = scattered*6364136223846793005 + 1442695040888963407
			l = append(l, of(scattered&(1<<63)|exponent<<52|scattered>>12))
		}
	}
	return l
}

// sweep32: likewise of binary32.
func sweep32() []float32 {
	l := nans32()
	for b := uint64(0); b < 1<<32; b += 4099 { // odd: all low bits come up
		l = append(l, of32(uint32(b)))
	}
	for exponent := range uint32(256) {
		for _, f := range []uint32{0, 1, 2, 1 << 22, 1<<23 - 2, 1<<23 - 1} {
			l = append(l, of32(exponent<<23|f), of32(1<<31|exponent<<23|f))
		}
	}
	return l
}

// exact: x as a number of mathematics; sums and differences of such stay exact.
func exact(x float64) *big.Float { return new(big.Float).SetPrec(4300).SetFloat64(x) }

func distance(a, b float64) *big.Float {
	d := exact(a)
	return d.Abs(d.Sub(d, exact(b)))
}

func sameNumber(t *testing.T, what string, x, got, want float64) {
	t.Helper()
	if bits(got) != bits(want) {
		t.Errorf("%s of bits %016x: bits %016x (%v), want %016x (%v)", what, bits(x), bits(got), got, bits(want), want)
	}
}

// P1.1, Class and Class32.

func TestClassAtItsEdges(t *testing.T) {
	for _, c := range []struct {
		bits uint64
		want int
	}{
		{0, grain.Nought}, {1 << 63, grain.Nought},
		{1, grain.Small}, {1<<63 | 1, grain.Small}, {1<<52 - 1, grain.Small}, {1<<63 | 1<<52 - 1, grain.Small},
		{1 << 52, grain.Plain}, {1<<63 | 1<<52, grain.Plain}, {0x3ff0000000000000, grain.Plain},
		{0x7fefffffffffffff, grain.Plain}, {0xffefffffffffffff, grain.Plain},
		{0x7ff0000000000000, grain.Endless}, {0xfff0000000000000, grain.Endless},
		{0x7ff0000000000001, grain.None}, {0xfff0000000000001, grain.None}, {theNaN, grain.None},
		{0x7fffffffffffffff, grain.None}, {0xffffffffffffffff, grain.None},
	} {
		if got := grain.Class(of(c.bits)); got != c.want {
			t.Errorf("Class of bits %016x: %d, want %d", c.bits, got, c.want)
		}
	}
	if grain.Nought != 1 || grain.Small != 2 || grain.Plain != 3 || grain.Endless != 4 || grain.None != 5 {
		t.Error("the kinds' numbers")
	}
}

func TestClass32AtItsEdges(t *testing.T) {
	for _, c := range []struct {
		bits uint32
		want int
	}{
		{0, grain.Nought}, {1 << 31, grain.Nought},
		{1, grain.Small}, {1<<31 | 1, grain.Small}, {1<<23 - 1, grain.Small}, {1<<31 | 1<<23 - 1, grain.Small},
		{1 << 23, grain.Plain}, {1<<31 | 1<<23, grain.Plain}, {0x3f800000, grain.Plain},
		{0x7f7fffff, grain.Plain}, {0xff7fffff, grain.Plain},
		{0x7f800000, grain.Endless}, {0xff800000, grain.Endless},
		{0x7f800001, grain.None}, {0xff800001, grain.None}, {theNaN32, grain.None},
		{0x7fffffff, grain.None}, {0xffffffff, grain.None},
	} {
		if got := grain.Class32(of32(c.bits)); got != c.want {
			t.Errorf("Class32 of bits %08x: %d, want %d", c.bits, got, c.want)
		}
	}
}

// kindByValue: the kind by comparisons alone, least being the least normal number.
func kindByValue(x, least float64) int {
	switch a := math.Abs(x); {
	case x != x:
		return grain.None
	case x == 0:
		return grain.Nought
	case a < least:
		return grain.Small
	case a > math.MaxFloat64:
		return grain.Endless
	}
	return grain.Plain
}

func TestClassEverywhere(t *testing.T) {
	for _, x := range sweep() {
		if got, want := grain.Class(x), kindByValue(x, 0x1p-1022); got != want {
			t.Errorf("Class of bits %016x: %d, want %d", bits(x), got, want)
		}
	}
	for _, x := range sweep32() {
		if got, want := grain.Class32(x), kindByValue(float64(x), 0x1p-126); got != want {
			t.Errorf("Class32 of bits %08x: %d, want %d", bits32(x), got, want)
		}
	}
}

// P1.1, Canon.

func TestCanon(t *testing.T) {
	for _, x := range sweep() {
		want := bits(x)
		if x != x {
			want = theNaN
		}
		if got := bits(grain.Canon(x)); got != want {
			t.Errorf("Canon of bits %016x: %016x, want %016x", bits(x), got, want)
		}
	}
}

// P1.1, Next, Prev and Ulp.

func TestNeighboursAtTheEdges(t *testing.T) {
	for _, c := range []struct{ x, prev, next uint64 }{
		{0, 1<<63 | 1, 1},
		{1 << 63, 1<<63 | 1, 1},
		{1, 0, 2},
		{1<<63 | 1, 1<<63 | 2, 1 << 63},
		{1<<52 - 1, 1<<52 - 2, 1 << 52},
		{1 << 52, 1<<52 - 1, 1<<52 + 1},
		{0x3ff0000000000000, 0x3fefffffffffffff, 0x3ff0000000000001},
		{0xbff0000000000000, 0xbff0000000000001, 0xbfefffffffffffff},
		{0x7fefffffffffffff, 0x7feffffffffffffe, 0x7ff0000000000000},
		{0xffefffffffffffff, 0xfff0000000000000, 0xffeffffffffffffe},
		{0x7ff0000000000000, 0x7fefffffffffffff, 0x7ff0000000000000},
		{0xfff0000000000000, 0xfff0000000000000, 0xffefffffffffffff},
	} {
		sameNumber(t, "Prev", of(c.x), grain.Prev(of(c.x)), of(c.prev))
		sameNumber(t, "Next", of(c.x), grain.Next(of(c.x)), of(c.next))
	}
	for _, x := range nans() {
		sameNumber(t, "Prev", x, grain.Prev(x), of(theNaN))
		sameNumber(t, "Next", x, grain.Next(x), of(theNaN))
	}
}

func TestUlpAtTheEdges(t *testing.T) {
	for _, c := range []struct{ x, want float64 }{
		{0, 0x1p-1074}, {negZero, 0x1p-1074}, {of(1), 0x1p-1074}, {-of(1), 0x1p-1074},
		{0x1p-1022 - 0x1p-1074, 0x1p-1074}, {0x1p-1022, 0x1p-1074}, {0x1p-1021, 0x1p-1073},
		{1, 0x1p-52}, {-1, 0x1p-52}, {of(0x3fefffffffffffff), 0x1p-53}, {of(0x3ff0000000000001), 0x1p-52},
		{1.5, 0x1p-52}, {2, 0x1p-51}, {0x1p1023, 0x1p971}, {of(0x7feffffffffffffe), 0x1p971},
		{math.MaxFloat64, 0x1p971}, {-math.MaxFloat64, 0x1p971},
		{math.Inf(1), of(theNaN)}, {math.Inf(-1), of(theNaN)},
	} {
		sameNumber(t, "Ulp", c.x, grain.Ulp(c.x), c.want)
	}
	for _, x := range nans() {
		sameNumber(t, "Ulp", x, grain.Ulp(x), of(theNaN))
	}
}

func TestUlpEverywhere(t *testing.T) {
	for _, x := range sweep() {
		if x == 0 { // Frexp has no exponent for it; it is among the edges
			continue
		}
		if x != x || math.IsInf(x, 0) {
			sameNumber(t, "Ulp", x, grain.Ulp(x), of(theNaN))
			continue
		}
		_, exponent := math.Frexp(x)
		sameNumber(t, "Ulp", x, grain.Ulp(x), math.Ldexp(1, max(exponent-53, -1074)))
	}
}

// P1.2.

// nothingBetween: of two numbers with one between them the middle, rounded, would be neither.
func nothingBetween(a, b float64) bool {
	if math.IsInf(a, 0) || math.IsInf(b, 0) {
		return min(math.Abs(a), math.Abs(b)) == math.MaxFloat64
	}
	middle := exact(a)
	middle.Quo(middle.Add(middle, exact(b)), big.NewFloat(2))
	m, _ := middle.Float64()
	return a < b && (m == a || m == b)
}

func TestNothingLiesBetweenNeighbours(t *testing.T) {
	for _, x := range sweep() {
		if x != x {
			continue
		}
		if next := grain.Next(x); math.IsInf(x, 1) {
			sameNumber(t, "Next", x, next, x)
		} else if !(x < next) || !nothingBetween(x, next) {
			t.Errorf("Next of bits %016x: bits %016x", bits(x), bits(next))
		}
		if prev := grain.Prev(x); math.IsInf(x, -1) {
			sameNumber(t, "Prev", x, prev, x)
		} else if !(prev < x) || !nothingBetween(prev, x) {
			t.Errorf("Prev of bits %016x: bits %016x", bits(x), bits(prev))
		}
	}
}

func TestNeighboursOfNeighbours(t *testing.T) {
	for _, x := range sweep() {
		if x != x || math.IsInf(x, 0) {
			continue
		}
		if grain.Prev(grain.Next(x)) != x || grain.Next(grain.Prev(x)) != x {
			t.Errorf("there and back from bits %016x", bits(x))
		}
	}
}

// P1.3, and P1.1 of Order.

func sign(n int) int {
	return min(1, max(-1, n))
}

func TestOrderOfTheLadder(t *testing.T) {
	l := ladder()
	for i, a := range l {
		for k, b := range l {
			if got := grain.Order(a, b); got != sign(i-k) {
				t.Errorf("Order(%v, %v): %d, want %d", a, b, got, sign(i-k))
			}
		}
	}
}

func TestOrderOfNaNs(t *testing.T) {
	for _, n := range nans() {
		for _, m := range nans() {
			if grain.Order(n, m) != 0 {
				t.Errorf("two NaNs, bits %016x and %016x", bits(n), bits(m))
			}
		}
		for _, x := range ladder() {
			if grain.Order(n, x) != 1 || grain.Order(x, n) != -1 {
				t.Errorf("the NaN of bits %016x and %v", bits(n), x)
			}
		}
	}
}

func TestOrderIsThatOfValues(t *testing.T) {
	l := sweep()
	for i, a := range l {
		b := l[(i*7919+13)%len(l)]
		got, back := grain.Order(a, b), grain.Order(b, a)
		if got != -back || grain.Order(a, a) != 0 {
			t.Errorf("Order of bits %016x and %016x: %d, and back %d", bits(a), bits(b), got, back)
		}
		if a < b && got != -1 || a > b && got != 1 || a == b && a != 0 && got != 0 {
			t.Errorf("Order(%v, %v): %d", a, b, got)
		}
	}
}

func TestOrderGoesWithNeighbours(t *testing.T) {
	for _, x := range sweep() {
		if x != x || math.IsInf(x, 0) {
			continue
		}
		if grain.Order(x, grain.Next(x)) != -1 || grain.Order(x, grain.Prev(x)) != 1 {
			t.Errorf("bits %016x and its neighbours", bits(x))
		}
	}
}

// P1.4, and P1.1 of Narrow.

func TestNarrowAtTheEdges(t *testing.T) {
	for _, c := range []struct {
		x    float64
		want uint32
	}{
		{0, 0}, {of(1), 0}, {0x1p-151, 0}, {0x1p-150, 0}, // a tie, to even
		{grain.Next(0x1p-150), 1}, {0x1p-149, 1}, {0x3p-150, 2}, {grain.Prev(0x3p-150), 1}, {0x5p-150, 2}, {0x7p-150, 4},
		{0x1p-126 - 0x1p-149, 0x007fffff}, {0x1p-126 - 0x1p-150, 0x00800000}, {grain.Prev(0x1p-126 - 0x1p-150), 0x007fffff},
		{0x1p-126, 0x00800000}, {0.1, 0x3dcccccd},
		{1, 0x3f800000}, {1 + 0x1p-24, 0x3f800000}, {grain.Next(1 + 0x1p-24), 0x3f800001}, {1 + 0x3p-24, 0x3f800002},
		{grain.Prev(1 + 0x3p-24), 0x3f800001}, {2 - 0x1p-24, 0x40000000}, {1 - 0x1p-25, 0x3f800000}, {1 - 0x3p-25, 0x3f7ffffe},
		{math.MaxFloat32, 0x7f7fffff}, {grain.Prev(0x1p128 - 0x1p103), 0x7f7fffff}, {0x1p128 - 0x1p103, 0x7f800000},
		{grain.Next(0x1p128 - 0x1p103), 0x7f800000}, {0x1p128, 0x7f800000}, {1e300, 0x7f800000},
		{math.MaxFloat64, 0x7f800000}, {math.Inf(1), 0x7f800000},
	} {
		if got := bits32(grain.Narrow(c.x)); got != c.want {
			t.Errorf("Narrow(%v): bits %08x, want %08x", c.x, got, c.want)
		}
		if got := bits32(grain.Narrow(-c.x)); c.x != 0 && got != c.want|1<<31 {
			t.Errorf("Narrow(%v): bits %08x, want %08x", -c.x, got, c.want|1<<31)
		}
	}
	if got := bits32(grain.Narrow(negZero)); got != 1<<31 {
		t.Errorf("Narrow(-0): bits %08x", got)
	}
	for _, x := range nans() {
		if got := bits32(grain.Narrow(x)); got != theNaN32 {
			t.Errorf("Narrow of bits %016x: bits %08x", bits(x), got)
		}
	}
}

func TestNarrowIsNearest(t *testing.T) {
	for _, x := range sweep() {
		if x != x {
			continue
		}
		n := grain.Narrow(x)
		if math.Signbit(float64(n)) != math.Signbit(x) {
			t.Errorf("Narrow(%v): %v: the sign", x, n)
		}
		if endless := math.IsInf(float64(n), 0); endless || math.IsInf(x, 0) {
			if endless != (math.Abs(x) >= 0x1p128-0x1p103) {
				t.Errorf("Narrow(%v): %v", x, n)
			}
			continue
		}
		here := distance(x, float64(n))
		for _, way := range []float32{float32(math.Inf(-1)), float32(math.Inf(1))} {
			other := math.Nextafter32(n, way)
			if math.IsInf(float64(other), 0) {
				continue
			}
			there := here.Cmp(distance(x, float64(other)))
			if there > 0 || there == 0 && bits32(n)&1 != 0 {
				t.Errorf("Narrow(%v): %v, but %v lies nearer or is even", x, n, other)
			}
		}
	}
}

// P1.5, and P1.1 of Wide.

func TestWide(t *testing.T) {
	for _, x := range sweep32() {
		w, back := grain.Wide(x), grain.Narrow(grain.Wide(x))
		if x != x {
			if bits(w) != theNaN || bits32(back) != theNaN32 {
				t.Errorf("Wide of bits %08x: %016x, and back %08x", bits32(x), bits(w), bits32(back))
			}
			continue
		}
		if float32(w) != x || w != float64(x) || math.Signbit(w) != math.Signbit(float64(x)) {
			t.Errorf("Wide of bits %08x: %v", bits32(x), w)
		}
		if bits32(back) != bits32(x) {
			t.Errorf("there and back from bits %08x: %08x", bits32(x), bits32(back))
		}
	}
	for _, c := range []struct {
		x    uint32
		want float64
	}{{0, 0}, {1 << 31, negZero}, {1, 0x1p-149}, {0x007fffff, 0x1p-126 - 0x1p-149}, {0x7f7fffff, math.MaxFloat32}, {0xff800000, math.Inf(-1)}} {
		sameNumber(t, "Wide", float64(c.x), grain.Wide(of32(c.x)), c.want)
	}
}

// P1.1, Rest.

func TestRestAtTheEdges(t *testing.T) {
	top := grain.Prev(0x1p128 - 0x1p103) // the greatest one whose Narrow is finite
	for _, c := range []struct{ x, want float64 }{
		{0, 0}, {negZero, 0}, {1, 0}, {-1, 0}, {0.1, -1.4901161138336505e-09}, {-0.1, 1.4901161138336505e-09},
		{of(1), of(1)}, {-of(1), -of(1)}, {0x1p-150, 0x1p-150}, {-0x1p-150, -0x1p-150}, {0x3p-150, -0x1p-150},
		{1 + 0x1p-24, 0x1p-24}, {1 + 0x3p-24, -0x1p-24}, {math.MaxFloat32, 0},
		{top, top - math.MaxFloat32}, {0x1p128 - 0x1p103, 0}, {1e300, 0}, {-1e300, 0},
		{math.Inf(1), 0}, {math.Inf(-1), 0},
	} {
		sameNumber(t, "Rest", c.x, grain.Rest(c.x), c.want)
	}
	for _, x := range nans() {
		sameNumber(t, "Rest", x, grain.Rest(x), 0)
	}
}

func TestRestIsExact(t *testing.T) {
	for _, x := range sweep() {
		r := grain.Rest(x)
		if r == 0 && math.Signbit(r) {
			t.Errorf("Rest(%v): -0", x)
		}
		n := float64(grain.Narrow(x))
		if n != n || math.IsInf(n, 0) {
			sameNumber(t, "Rest", x, r, 0)
			continue
		}
		if whole := exact(n); whole.Add(whole, exact(r)).Cmp(exact(x)) != 0 {
			t.Errorf("Rest(%v): %v, with Narrow %v", x, r, n)
		}
	}
}

// P1.1, Fit.

func TestFit(t *testing.T) {
	for _, x := range []float64{0, negZero, 1, 0.1, 0x1p-200, 0x1p200, grain.Next(0x1p-200), grain.Prev(0x1p200)} {
		if !grain.Fit(x) || !grain.Fit(-x) {
			t.Errorf("%v is fit, and %v", x, -x)
		}
	}
	for _, x := range []float64{of(1), 0x1p-1022, 0x1p-201, grain.Prev(0x1p-200), grain.Next(0x1p200), 0x1p201, math.MaxFloat64, math.Inf(1)} {
		if grain.Fit(x) || grain.Fit(-x) {
			t.Errorf("%v isn't fit, nor is %v", x, -x)
		}
	}
	for _, x := range nans() {
		if grain.Fit(x) {
			t.Errorf("the NaN of bits %016x isn't fit", bits(x))
		}
	}
	for _, x := range sweep() {
		_, e := math.Frexp(x) // a magnitude from 2^(e-1) on, below 2^e
		want := x == 0 || e >= -199 && e <= 200 || math.Abs(x) == 0x1p200
		if x != x || math.IsInf(x, 0) {
			want = false
		}
		if grain.Fit(x) != want {
			t.Errorf("Fit(%v): %v", x, !want)
		}
	}
}
