package date_test

import (
	"math"
	"math/big"
	"slices"
	"testing"

	"orrery/api"
	"orrery/date"
)

const (
	day  = int64(api.DayTicks)
	last = int64(api.MaxTick)
)

// A chance answers numbers that depend on nothing but how many were asked for ahead of them.
type chance uint64

func (c *chance) bits() uint64 {
	*c = *c*6364136223846793005 + 1442695040888963407
	return uint64(*c ^ *c>>29)
}

func (c *chance) below(n int64) int64 { return int64(c.bits() >> 11 % uint64(n)) }

// instant: any of them, often near to an end, to a day's first one or to 0.
func (c *chance) instant() int64 {
	t := c.below(2*last+1) - last
	switch c.below(5) {
	case 0:
		t = last - c.below(5000)
	case 1:
		t = c.below(5000) - last
	case 2:
		t = t/day*day + c.below(5) - 2
	case 3:
		t = c.below(1<<28) - 1<<27
	}
	return min(max(t, -last), last)
}

// date: one of the calendar, in a year that has instants alone.
func (c *chance) date() api.Date {
	d := api.Date{
		Year: int(c.below(91860)) - 45930, Month: int(c.below(14)) + 1, Day: int(c.below(28)) + 1,
		Hour: int(c.below(16)), Minute: int(c.below(64)), Second: int(c.below(64)), Tick: int(c.below(1024)),
	}
	if d.Month == 14 {
		d.Day = min(d.Day, lastMonth(d.Year))
	}
	return d
}

func check(t *testing.T, ok bool, tell ...any) {
	t.Helper()
	if !ok {
		t.Error(tell...)
	}
}

// long: the chapter's rule by numbers of any size.
func long(year int) bool {
	x := new(big.Int).Mul(big.NewInt(8), big.NewInt(int64(year)))
	x.Add(x, big.NewInt(5))
	return x.Mod(x, big.NewInt(33)).Int64() >= 25 // big's Mod answers from 0 to 32
}

// lastMonth: how many days month 14 has.
func lastMonth(year int) int {
	if long(year) {
		return 2
	}
	return 1
}

// fields: what a date is told by, the greatest first.
func fields(d api.Date) []int {
	return []int{d.Year, d.Month, d.Day, d.Hour, d.Minute, d.Second, d.Tick}
}

// changed: d with another number in one of its fields.
func changed(d api.Date, field, to int) api.Date {
	*[]*int{&d.Year, &d.Month, &d.Day, &d.Hour, &d.Minute, &d.Second, &d.Tick}[field] = to
	return d
}

// A told is what From answered.
type told struct {
	t   int64
	err api.Errno
}

func from(d api.Date) told {
	t, err := date.From(d)
	return told{t, err}
}

var noDate = told{0, api.ErrDate}

// P8.1.

// A calendar goes from day to day by the chapter's months, a year's length told anew at each turn of the year.
type calendar struct {
	d   api.Date
	has int // days of month 14 in the year of d
}

func (c *calendar) next() {
	switch d := &c.d; {
	case d.Month == 14 && d.Day == c.has:
		*d = api.Date{Year: d.Year + 1, Month: 1, Day: 1}
		c.has = lastMonth(d.Year)
	case d.Day == 28:
		d.Month, d.Day = d.Month+1, 1
	default:
		d.Day++
	}
}

func (c *calendar) back() {
	switch d := &c.d; {
	case d.Month == 1 && d.Day == 1:
		c.has = lastMonth(d.Year - 1)
		*d = api.Date{Year: d.Year - 1, Month: 14, Day: c.has}
	case d.Day == 1:
		d.Month, d.Day = d.Month-1, 28
	default:
		d.Day--
	}
}

// checkDay: is the day's first instant told by that date, there and back? (It ends the test, since it is asked for millions of days.)
func checkDay(t *testing.T, n int64, d api.Date) {
	got, err := date.To(n * day)
	if got != d || err != api.OK {
		t.Fatal("To of the first instant of day", n, "is", got, err, "and should be", d)
	}
	back, err := date.From(d)
	if back != n*day || err != api.OK {
		t.Fatal("From", d, "is", back, err, "and should be", n*day)
	}
}

func TestEachDay(t *testing.T) {
	year0 := calendar{api.Date{Month: 1, Day: 1}, 1}
	c := year0
	checkDay(t, 0, c.d)
	for n := int64(1); n <= api.MaxDays; n++ {
		c.next()
		checkDay(t, n, c.d)
	}
	c = year0
	for n := int64(-1); n >= -api.MaxDays; n-- {
		c.back()
		checkDay(t, n, c.d)
	}
}

func TestEachSecondOfADay(t *testing.T) {
	for _, n := range []int64{-api.MaxDays, -366, -1, 0, 1, 365, api.MaxDays - 1} {
		d, err := date.To(n * day)
		check(t, err == api.OK, n, err)
		at := n * day
		for second := range 16 * 64 * 64 {
			d.Hour, d.Minute, d.Second = second/4096, second/64%64, second%64
			for _, tick := range []int{0, 1, 512, 1023} {
				d.Tick = tick
				got, err := date.To(at + int64(tick))
				if back := from(d); got != d || err != api.OK || back != (told{at + int64(tick), api.OK}) {
					t.Fatal("instant", at+int64(tick), "is", got, err, "and not", d, "whose instant is", back)
				}
			}
			at += 1024
		}
		check(t, at == (n+1)*day, "day", n, "ends at", at)
	}
}

func TestLongYears(t *testing.T) {
	for i := range 20000 {
		for _, y := range []int{i - 10000, math.MinInt + i, math.MaxInt - i, math.MaxInt/8 - 10000 + i, math.MinInt/8 - 10000 + i} {
			if date.Long(y) != long(y) {
				t.Fatal("Long of", y, "is", date.Long(y))
			}
		}
	}
	c := chance(1)
	for range 20000 {
		y := int(c.bits()) >> c.below(64)
		check(t, date.Long(y) == long(y), "Long", y)
	}
}

func TestInstantsOutOfRange(t *testing.T) {
	for _, at := range []int64{last + 1, -last - 1, 2 * last, math.MaxInt64, math.MaxInt64 - day, math.MinInt64, math.MinInt64 + day, 1 << 62} {
		d, err := date.To(at)
		check(t, d == api.Date{} && err == api.ErrDate, "To", at, d, err)
		x, err := date.Days(at)
		check(t, math.Float64bits(x) == 0 && err == api.ErrDate, "Days", at, x, err)
		c, err := date.Civil(nil, at)
		check(t, c == 0 && err == api.ErrDate, "Civil", at, c, err)
	}
}

func TestJustTheseMonthsAndDays(t *testing.T) {
	for year := -70; year <= 70; year++ {
		for month := -3; month <= 20; month++ {
			for n := -3; n <= 40; n++ {
				has := 28
				if month == 14 {
					has = lastMonth(year)
				}
				ok := 1 <= month && month <= 14 && 1 <= n && n <= has
				got := from(api.Date{Year: year, Month: month, Day: n})
				check(t, ok == (got.err == api.OK) && (ok || got == noDate), year, month, n, got)
			}
		}
	}
}

func TestWrongFields(t *testing.T) {
	good := []api.Date{{Year: 3, Month: 14, Day: 2}, {Year: -1, Month: 1, Day: 1, Hour: 15, Minute: 63, Second: 63, Tick: 1023}, {Year: 45000, Month: 7, Day: 3, Hour: 7, Minute: 30, Tick: 1}}
	most := []int{0, 14, 28, 15, 63, 63, 1023}
	for _, d := range good {
		check(t, from(d).err == api.OK, d, from(d))
		for field := 1; field < 7; field++ {
			least := 0
			if field < 3 {
				least = 1
			}
			for _, x := range []int{least - 1, -2, -28, -1024, most[field] + 1, most[field] + 2, 4096, 1 << 32, 1<<32 + 1, 1 << 62, math.MaxInt, math.MinInt, math.MinInt + 1} {
				check(t, from(changed(d, field, x)) == noDate, changed(d, field, x), from(changed(d, field, x)))
			}
		}
	}
	check(t, from(api.Date{}) == noDate, from(api.Date{}))
}

// Years whose days or ticks would come round to an instant, if whole numbers were let wrap.
func TestYearsOutOfRange(t *testing.T) {
	years := []int{45935, -45936, 45936, 46000, -46000, 91869, math.MaxInt, math.MinInt, math.MaxInt / 365, math.MinInt / 365, math.MaxInt/12053 + 1, math.MinInt/12053 - 1}
	for k := 16; k < 63; k++ {
		years = append(years, 1<<k, -1<<k, 1<<k+1, 1-1<<k, 33<<(k-5), -33<<(k-5))
	}
	for _, y := range years {
		for _, d := range []api.Date{{Year: y, Month: 1, Day: 1}, {Year: y, Month: 13, Day: 28, Hour: 15, Tick: 7}} {
			check(t, from(d) == noDate, d, from(d))
		}
	}
}

func TestEndsOfTheRange(t *testing.T) {
	end := api.Date{Year: 45934, Month: 7, Day: 4}
	begin := api.Date{Year: -45935, Month: 7, Day: 28}
	check(t, from(end) == told{last, api.OK}, from(end))
	check(t, from(begin) == told{-last, api.OK}, from(begin))
	for field, x := range []int{45935, 8, 5, 1, 1, 1, 1} { // one more in any field is behind the last instant
		check(t, from(changed(end, field, x)) == noDate, changed(end, field, x), from(changed(end, field, x)))
	}
	for field, x := range []int{-45936, 6, 27} {
		check(t, from(changed(begin, field, x)) == noDate, changed(begin, field, x), from(changed(begin, field, x)))
	}
	behind := api.Date{Year: 45934, Month: 7, Day: 3, Hour: 15, Minute: 63, Second: 63, Tick: 1023}
	check(t, from(behind) == told{last - 1, api.OK}, from(behind))
	ahead := api.Date{Year: -45935, Month: 7, Day: 27, Hour: 15, Minute: 63, Second: 63, Tick: 1023}
	check(t, from(ahead) == noDate, from(ahead))
}

func TestDaysAreExact(t *testing.T) {
	c := chance(2)
	l := []int64{0, 1, -1, day, -day, day - 1, last, -last, last - 1, 1 - last}
	for range 20000 {
		l = append(l, c.instant())
	}
	for _, at := range l {
		x, err := date.Days(at)
		ticks, how := new(big.Float).SetPrec(200).Mul(big.NewFloat(x), big.NewFloat(float64(day))).Int64()
		check(t, err == api.OK && ticks == at && how == big.Exact && math.Abs(x) <= api.MaxDays, "Days", at, x, err)
	}
	x, _ := date.Days(0)
	check(t, math.Float64bits(x) == 0, "Days of 0 is", x)
}

func TestExamples(t *testing.T) {
	for at, want := range map[int64]api.Date{
		0:     {Year: 0, Month: 1, Day: 1},
		-1:    {Year: -1, Month: 14, Day: 2, Hour: 15, Minute: 63, Second: 63, Tick: 1023},
		last:  {Year: 45934, Month: 7, Day: 4},
		-last: {Year: -45935, Month: 7, Day: 28},
		day:   {Year: 0, Month: 1, Day: 2},
	} {
		d, err := date.To(at)
		check(t, d == want && err == api.OK, "To", at, d, err)
	}
	for year, want := range map[int]bool{3: true, -1: true, 0: false, 1: false, 2: false, 4: false, -2: false} {
		check(t, date.Long(year) == want, "Long", year)
	}
	for d, want := range map[api.Date]told{
		{Year: 1, Month: 1, Day: 1}:  {24494735360, api.OK},
		{Year: 3, Month: 14, Day: 2}: {97978941440, api.OK},
		{Year: 2, Month: 14, Day: 2}: noDate,
		{Year: 2, Month: 15, Day: 1}: noDate,
		{Year: 2, Month: 3, Day: 29}: noDate,
	} {
		check(t, from(d) == want, "From", d, from(d))
	}
}

// P8.2.

func TestThereAndBack(t *testing.T) {
	c := chance(3)
	for range 200000 {
		at := c.instant()
		d, err := date.To(at)
		check(t, err == api.OK && from(d) == told{at, api.OK}, "To", at, d, err, "and back", from(d))
		want := c.date()
		got := from(want)
		d, err = date.To(got.t)
		check(t, got.err == api.OK && err == api.OK && d == want, "From", want, got, "and back", d, err)
	}
}

// P8.3.

func checkOn(t *testing.T, at int64) {
	t.Helper()
	if at == last {
		return
	}
	d, err := date.To(at)
	e, no := date.To(at + 1)
	check(t, err == api.OK && no == api.OK && slices.Compare(fields(d), fields(e)) < 0, at, d, err, "and behind it", e, no)
}

func TestOnAndOn(t *testing.T) {
	c := chance(4)
	for range 100000 {
		checkOn(t, c.instant())
	}
	for y := -45934; y <= 45934; y++ {
		first := from(api.Date{Year: y, Month: 1, Day: 1})
		check(t, first.err == api.OK, "year", y, first)
		for _, n := range []int64{0, 28, 13 * 28, 13*28 + 1} { // turns of the day, of the month and of the year
			checkOn(t, min(first.t+n*day, last)-1)
		}
		if y == 45934 {
			break
		}
		days := int64(364 + lastMonth(y))
		next := from(api.Date{Year: y + 1, Month: 1, Day: 1})
		check(t, next == told{first.t + days*day, api.OK}, "years", y, "and the next", first, next)
	}
}

func TestEightInThirtyThreeAreLong(t *testing.T) {
	for _, start := range []int{-2000, -45935, 45900, 0, math.MinInt, math.MaxInt - 300} {
		for y := start; y < start+260; y++ {
			n := 0
			for i := range 33 {
				if date.Long(y + i) {
					n++
				}
			}
			check(t, n == 8, "in the 33 years from", y, "on", n, "are long")
		}
	}
}

// P1: each call answers, whatever it is given, and nothing beside an error.

func TestAnyNumbersOfDates(t *testing.T) {
	c := chance(5)
	anyInt := func() int64 { return int64(c.bits()) >> c.below(64) }
	for range 200000 {
		at := anyInt()
		d, err := date.To(at)
		check(t, err == api.OK && -last <= at && at <= last || err == api.ErrDate && d == api.Date{}, "To", at, d, err)
		x, err := date.Days(at)
		check(t, err == api.OK && -last <= at && at <= last || err == api.ErrDate && x == 0, "Days", at, x, err)
		for field := range 7 {
			if c.below(3) == 0 {
				d = changed(d, field, int(anyInt()))
			}
		}
		got := from(d)
		back, err := date.To(got.t)
		check(t, got == noDate || got.err == api.OK && err == api.OK && back == d, "From", d, got)
	}
}
