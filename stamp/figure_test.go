package stamp_test

import (
	"math"
	"math/big"
	"regexp"
	"strconv"
	"strings"
	"testing"

	"orrery/api"
	"orrery/stamp"
)

const most = 1 << 30

var negZero = math.Copysign(0, -1)

// power: 10^n.
func power(n int) *big.Int { return new(big.Int).Exp(big.NewInt(10), big.NewInt(int64(n)), nil) }

func exact(x float64) *big.Rat { return new(big.Rat).SetFloat64(x) }

// wantFigure: the chapter's words by fractions, with nothing rounded but once.
func wantFigure(x float64, places int) string {
	r := exact(math.Abs(x))
	r.Mul(r, new(big.Rat).SetInt(power(places)))
	twice := new(big.Int).Mul(r.Num(), big.NewInt(2))
	n, rest := new(big.Int).QuoRem(r.Num(), r.Denom(), new(big.Int))
	rest.Sub(twice.Mul(rest, big.NewInt(2)), r.Denom())
	if rest.Sign() > 0 || rest.Sign() == 0 && n.Bit(0) == 1 {
		n.Add(n, big.NewInt(1))
	}
	return written(x < 0, n, places)
}

// written: the figure of so many places that n units of the last one make.
func written(minus bool, n *big.Int, places int) string {
	digits := n.String()
	for len(digits) <= places {
		digits = "0" + digits
	}
	s := digits[:len(digits)-places]
	if places > 0 {
		s += "." + digits[len(digits)-places:]
	}
	if minus && n.Sign() > 0 {
		s = "-" + s
	}
	return s
}

func checkFigure(t *testing.T, x float64, places int) {
	t.Helper()
	got, err := stamp.Figure(x, places)
	want := wantFigure(x, places)
	check(t, got == want && err == api.OK, "Figure", x, places, got, err, "and should be", want)
}

// figures: numbers that may be written: of every power of two, whole, near a tie of some place or on one, and near the greatest.
func (c *chance) figures() []float64 {
	l := []float64{0, negZero, most, math.Nextafter(most, 0), most - 1, most - 0.5, 0x1p-200, math.Nextafter(0x1p-200, 1), 0x1p-199}
	for e := -200; e < 30; e++ {
		for range 20 {
			l = append(l, math.Ldexp(1+float64(c.below(1<<52))/(1<<52), e))
		}
		l = append(l, math.Ldexp(1, e), math.Nextafter(math.Ldexp(1, e+1), 0))
	}
	for range 20000 {
		l = append(l, c.nearTie())
	}
	for _, x := range l[:len(l):len(l)] {
		l = append(l, -x)
	}
	return l
}

// nearTie: the number nearest to an odd half of a unit of some place, or a neighbour of it.
func (c *chance) nearTie() float64 {
	places := int(c.below(10))
	units := power(places).Int64()
	n := c.below(min(units<<30, 1<<62)) >> c.below(62)
	x, _ := big.NewRat(2*n+1, 1).Float64()
	x /= 2 * float64(units)
	switch c.below(3) {
	case 0:
		x = math.Nextafter(x, 0)
	case 1:
		x = math.Nextafter(x, most)
	}
	return min(x, most)
}

// P9.1, Figure.

func TestFigure(t *testing.T) {
	for _, c := range []struct {
		x      float64
		places int
		want   string
	}{
		{0, 0, "0"}, {negZero, 0, "0"}, {0, 1, "0.0"}, {negZero, 9, "0.000000000"},
		{0.5, 0, "0"}, {-0.5, 0, "0"}, {1.5, 0, "2"}, {2.5, 0, "2"}, {-1.5, 0, "-2"}, {-2.5, 0, "-2"}, {3.5, 0, "4"},
		{math.Nextafter(0.5, 1), 0, "1"}, {-math.Nextafter(0.5, 1), 0, "-1"}, {math.Nextafter(2.5, 3), 0, "3"}, {math.Nextafter(1.5, 1), 0, "1"},
		{0.25, 1, "0.2"}, {0.75, 1, "0.8"}, {-0.25, 1, "-0.2"}, {0.125, 2, "0.12"}, {0.375, 2, "0.38"}, {0.0625, 3, "0.062"},
		{0x1p-10, 9, "0.000976562"}, {0x3p-10, 9, "0.002929688"}, {0x1p-9, 8, "0.00195312"}, {0.05, 1, "0.1"}, {0.15, 1, "0.1"},
		{0.95, 1, "0.9"}, {0.96, 1, "1.0"}, {9.5, 0, "10"}, {99.95, 1, "100.0"}, {0.9999999996, 9, "1.000000000"}, {999999999.5, 0, "1000000000"},
		{-0.0004, 3, "0.000"}, {-0.0005, 3, "-0.001"}, {-0.0006, 3, "-0.001"}, {-0.05, 0, "0"}, {-0.51, 0, "-1"},
		{0.1, 9, "0.100000000"}, {0.1, 0, "0"}, {-0.1, 9, "-0.100000000"}, {1e-9, 9, "0.000000001"}, {-1e-9, 9, "-0.000000001"},
		{0x1p-200, 9, "0.000000000"}, {-0x1p-200, 9, "0.000000000"}, {-0x1p-200, 0, "0"},
		{most, 0, "1073741824"}, {-most, 0, "-1073741824"}, {most, 9, "1073741824.000000000"}, {-most, 9, "-1073741824.000000000"},
		{math.Nextafter(most, 0), 9, "1073741823.999999881"}, {math.Nextafter(most, 0), 0, "1073741824"}, {123456789, 0, "123456789"}, {10, 0, "10"}, {100, 2, "100.00"},
	} {
		got, err := stamp.Figure(c.x, c.places)
		check(t, got == c.want && err == api.OK, "Figure", c.x, c.places, got, err, "and should be", c.want)
	}
}

func TestFigureByTheChaptersWords(t *testing.T) {
	c := chance(11)
	for _, x := range c.figures() {
		for places := range 10 {
			checkFigure(t, x, places)
		}
	}
}

// On a tie the last digit is even: all odd halves of a unit that are numbers, of every place, up to some size.
func TestFigureOnTies(t *testing.T) {
	for places := range 10 {
		for odd := int64(1); odd < 4000; odd += 2 {
			x := float64(odd) / float64(int64(2)<<places) // 5^places odd halves of a unit
			checkFigure(t, x, places)
			checkFigure(t, -x, places)
			s, _ := stamp.Figure(x, places)
			check(t, (s[len(s)-1]-'0')%2 == 0, "Figure", x, places, s)
		}
	}
}

func TestFigureIsRefused(t *testing.T) {
	unfit := []float64{
		math.NaN(), math.Float64frombits(0xfff0000000000001), math.Inf(1), math.Inf(-1), math.SmallestNonzeroFloat64, 0x1p-1022,
		0x1p-201, math.Nextafter(0x1p-200, 0), -math.Nextafter(0x1p-200, 0), math.Nextafter(most, 2*most), -math.Nextafter(most, 2*most),
		most + 1, 0x1p31, -0x1p31, 0x1p200, 0x1p201, math.MaxFloat64,
	}
	for _, x := range unfit {
		for places := range 10 {
			s, err := stamp.Figure(x, places)
			check(t, s == "" && err == api.ErrFit, "Figure", x, places, s, err)
		}
	}
	for _, places := range []int{-1, 10, -2, 11, 100, -1000000, math.MaxInt, math.MinInt, 1 << 32} {
		for _, x := range append(unfit, 0, 1, most) { // that of the places comes first
			s, err := stamp.Figure(x, places)
			check(t, s == "" && err == api.ErrArg, "Figure", x, places, s, err)
		}
	}
}

// P9.1, Value.

var (
	readable = regexp.MustCompile(`\A-?(0|[1-9][0-9]{0,9})(\.[0-9]{1,9})?\z`)
	minusNo  = regexp.MustCompile(`\A-0(\.0*)?\z`)
)

// wantValue: the chapter's words, a figure being told by patterns, held against 2^30 as it is, and its number rounded once.
func wantValue(s string) (float64, api.Errno) {
	if !readable.MatchString(s) || minusNo.MatchString(s) {
		return 0, api.ErrText
	}
	r, _ := new(big.Rat).SetString(s)
	if new(big.Rat).Abs(r).Cmp(exact(most)) > 0 {
		return 0, api.ErrFit
	}
	x, _ := r.Float64()
	return x, api.OK
}

func checkValue(t *testing.T, s string) {
	t.Helper()
	got, err := stamp.Value(s)
	want, wantErr := wantValue(s)
	check(t, math.Float64bits(got) == math.Float64bits(want) && err == wantErr, "Value", strconv.Quote(s), got, err, "and should be", want, wantErr)
}

func TestValue(t *testing.T) {
	for _, c := range []struct {
		s    string
		want float64
	}{
		{"0", 0}, {"0.0", 0}, {"0.000000000", 0}, {"1", 1}, {"-1", -1}, {"10", 10}, {"0.1", 0.1}, {"-0.1", -0.1}, {"0.5", 0.5}, {"1.50", 1.5},
		{"0.000000001", 1e-9}, {"-0.000000001", -1e-9}, {"-0.5", -0.5}, {"-1.0", -1}, {"3.141592653", 3.141592653},
		{"1073741824", most}, {"-1073741824", -most}, {"1073741824.000000000", most}, {"-1073741824.0", -most},
		{"1073741823.999999999", most}, {"1073741823.9999999", math.Nextafter(most, 0)},
		{"-1073741824.000000000", -most}, {"-1073741823.999999999", -most}, // nearest to 2^30 and not above it
		{"4503599.627370495", 4503599.627370495}, {"1000000000", 1e9},
	} {
		got, err := stamp.Value(c.s)
		check(t, math.Float64bits(got) == math.Float64bits(c.want) && err == api.OK, "Value", c.s, got, err, "and should be", c.want)
	}
}

func TestValueIsRefused(t *testing.T) {
	for _, s := range []string{
		"", "-", "+", ".", "-.", "-0", "-0.0", "-0.000000000", "01", "00", "-01", "00.5", "-00.5", "1.", "-1.", "0.", ".5", "-.5", "+1", "+0", "--1", "-+1",
		"1.1234567890", "0.0000000000", "12345678901", "01073741824", "10000000000", "00000000001", "99999999999999999999999999",
		"1e5", "1E5", "1e", "0x1", "0x1p3", "1_0", "1,5", "1 ", " 1", "1\n", "1.5.5", "1..5", "1.-5", "1.+5", "1.5-", "1-", "1.e1",
		"NaN", "nan", "Inf", "inf", "-inf", "+Inf", "infinity", "1/2", "1.5 2", "\x001", "1\x00", "\u0661", "\uff11", "1.\u0665", "\xff", "\u22121",
		strings.Repeat("1", 1<<20), strings.Repeat("0", 1<<20), "0." + strings.Repeat("1", 1<<20), strings.Repeat("-", 1<<20), strings.Repeat(".", 1<<20),
	} {
		x, err := stamp.Value(s)
		check(t, x == 0 && err == api.ErrText, "Value", s[:min(len(s), 30)], x, err)
	}
	for _, s := range []string{
		"1073741824.5", "-1073741824.5", "1073741825", "-1073741825", "9999999999", "-9999999999", "9999999999.999999999",
		"1073741824.000000120", "-1073741824.00000012", "1073741824.000001", "2147483648",
		"1073741824.000000119", "-1073741824.000000119", "1073741824.0000001", "-1073741824.0000001", "1073741824.000000001", "-1073741824.000000001", // nearest to 2^30, but above it
	} {
		x, err := stamp.Value(s)
		check(t, x == 0 && err == api.ErrFit, "Value", s, x, err)
	}
}

// All texts of up to six bytes of those that a figure has, and some that it doesn't have.
func TestValueOfShortTexts(t *testing.T) {
	texts := []string{""}
	for range 6 {
		var longer []string
		for _, s := range texts {
			for _, b := range "0159-.+e" {
				longer = append(longer, s+string(b))
			}
		}
		for _, s := range longer {
			checkValue(t, s)
		}
		texts = longer
	}
}

func TestValueWithOneByteChanged(t *testing.T) {
	for _, s := range []string{"0", "1", "-1", "0.5", "-0.5", "-0.01", "1234567890", "-1073741824", "1073741823.123456789", "-0.000000001", "1000000.000000"} {
		for i := range len(s) + 1 {
			checkValue(t, s[:i])
			checkValue(t, s[i:])
			for b := range 256 {
				c := string([]byte{byte(b)})
				checkValue(t, s[:i]+c+s[i:])
				if i < len(s) {
					checkValue(t, s[:i]+c+s[i+1:])
				}
			}
		}
	}
}

// figure: one that Value reads, of so many places, and its digits.
func (c *chance) figure(places int) (string, *big.Int) {
	n := big.NewInt(c.below(1<<62) >> c.below(62))
	if whole := new(big.Int).Mul(big.NewInt(most), power(places)); n.Cmp(whole) > 0 {
		n.Mod(n, whole)
	}
	return written(c.below(2) == 0, n, places), n
}

func TestValueByTheChaptersWords(t *testing.T) {
	c := chance(12)
	for range 200000 {
		s, _ := c.figure(int(c.below(10)))
		checkValue(t, s)
	}
	for range 20000 { // as near to the middle of two numbers as there are figures; none up to 2^30 lies on it
		x := math.Ldexp(1+float64(c.below(1<<52))/(1<<52), int(c.below(30)))
		middle := exact(x)
		middle.Add(middle, exact(math.Nextafter(x, 2*most))).Quo(middle, big.NewRat(2, 1))
		checkValue(t, middle.FloatString(9))
	}
}

// Figures of every place that write 2^30 and a little more or less, down to the last unit.
func TestValueAboutTheGreatest(t *testing.T) {
	for places := range 10 {
		greatest := new(big.Int).Mul(big.NewInt(most), power(places))
		for off := int64(-300); off <= 300; off++ {
			units := new(big.Int).Add(greatest, big.NewInt(off))
			for _, minus := range []bool{false, true} {
				s := written(minus, units, places)
				checkValue(t, s)
				_, err := stamp.Value(s)
				check(t, err == api.ErrFit == (off > 0), "Value", s, err)
			}
		}
	}
}

func TestFigureExamples(t *testing.T) {
	for _, c := range []struct {
		x      float64
		places int
		want   string
		err    api.Errno
	}{
		{0.5, 0, "0", api.OK}, {1.5, 0, "2", api.OK}, {-0.0004, 3, "0.000", api.OK}, {0.1, 9, "0.100000000", api.OK}, {1, 10, "", api.ErrArg},
	} {
		got, err := stamp.Figure(c.x, c.places)
		check(t, got == c.want && err == c.err, "Figure", c.x, c.places, got, err)
	}
	x, err := stamp.Value("0.1")
	check(t, x == 0.1 && err == api.OK, "Value", x, err)
	for _, s := range []string{"-0", "01", "1.", ".5", "+1", ""} {
		x, err := stamp.Value(s)
		check(t, x == 0 && err == api.ErrText, "Value", s, x, err)
	}
	x, err = stamp.Value("1073741824.5")
	check(t, x == 0 && err == api.ErrFit, "Value", x, err)
}

// P9.3.

func TestFiguresAreNear(t *testing.T) {
	c := chance(13)
	for _, x := range c.figures() {
		for places := range 10 {
			s, err := stamp.Figure(x, places)
			check(t, err == api.OK, "Figure", x, places, err)
			back, err := stamp.Value(s)
			check(t, err == api.OK, "Value", s, err)
			bound := new(big.Rat).SetFrac(big.NewInt(1), new(big.Int).Mul(big.NewInt(2), power(places)))
			bound.Add(bound, exact(math.Abs(x)*0x1p-52))
			off := new(big.Rat).Sub(exact(back), exact(x))
			check(t, off.Abs(off).Cmp(bound) <= 0, "Figure", x, places, s, "and Value", back)
		}
	}
}

func TestFiguresThereAndBack(t *testing.T) {
	c := chance(14)
	there := func(s string, places int) {
		x, err := stamp.Value(s)
		check(t, err == api.OK, "Value", s, err)
		back, err := stamp.Figure(x, places)
		check(t, back == s && err == api.OK, "Figure", x, places, back, err, "and should be", s)
	}
	held := 0
	for places := range 10 {
		top := min(1<<52-1, int64(most)*power(places).Int64())
		for n := range int64(2000) {
			for _, minus := range []bool{true, false} {
				there(written(minus, big.NewInt(n), places), places)
				there(written(minus, big.NewInt(top-n), places), places)
			}
		}
		for range 20000 {
			if s, n := c.figure(places); n.BitLen() <= 52 {
				there(s, places)
				held++
			}
		}
	}
	check(t, held > 100000, "held", held)
}
