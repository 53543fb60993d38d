package stamp_test

import (
	"fmt"
	"math"
	"regexp"
	"slices"
	"strconv"
	"strings"
	"testing"

	"orrery/api"
	"orrery/date"
	"orrery/stamp"
)

const (
	day  = int64(api.DayTicks)
	last = int64(api.MaxTick)
)

// A chance answers numbers that depend on nothing but how many were asked for ahead of them.
type chance uint64

func (c *chance) bits() uint64 {
	*c = *c*6364136223846793005 + 1442695040888963407
	return uint64(*c ^ *c>>29)
}

func (c *chance) below(n int64) int64 { return int64(c.bits() >> 11 % uint64(n)) }

// instant: any of them, often near to an end, to a day's first one or to 0.
func (c *chance) instant() int64 {
	t := c.below(2*last+1) - last
	switch c.below(5) {
	case 0:
		t = last - c.below(5000)
	case 1:
		t = c.below(5000) - last
	case 2:
		t = t/day*day + c.below(5) - 2
	case 3:
		t = c.below(1<<28) - 1<<27
	}
	return min(max(t, -last), last)
}

func check(t *testing.T, ok bool, tell ...any) {
	t.Helper()
	if !ok {
		t.Error(tell...)
	}
}

// wantPrint: the chapter's words by the library's own way to write numbers.
func wantPrint(d api.Date) string {
	return fmt.Sprintf("%+06d-%02d-%02d %02d:%02d:%02d.%04d", d.Year, d.Month, d.Day, d.Hour, d.Minute, d.Second, d.Tick)
}

var form = regexp.MustCompile(`\A([+-][0-9]{5})-([0-9]{2})-([0-9]{2}) ([0-9]{2}):([0-9]{2}):([0-9]{2})\.([0-9]{4})\z`)

// wantParse: the chapter's words, a stamp's form being told by a pattern.
func wantParse(s string) (int64, api.Errno) {
	parts := form.FindStringSubmatch(s)
	if parts == nil || parts[1] == "-00000" {
		return 0, api.ErrText
	}
	var n [7]int
	for i := range n {
		n[i], _ = strconv.Atoi(parts[i+1])
	}
	return date.From(api.Date{Year: n[0], Month: n[1], Day: n[2], Hour: n[3], Minute: n[4], Second: n[5], Tick: n[6]})
}

func checkParse(t *testing.T, s string) {
	t.Helper()
	got, err := stamp.Parse(s)
	want, wantErr := wantParse(s)
	check(t, got == want && err == wantErr, "Parse", strconv.Quote(s), got, err, "and should be", want, wantErr)
}

// P9.1, Print and Parse.

func TestStampsOfInstants(t *testing.T) {
	for _, c := range []struct {
		t int64
		s string
	}{
		{0, "+00000-01-01 00:00:00.0000"},
		{-1, "-00001-14-02 15:63:63.1023"},
		{1, "+00000-01-01 00:00:00.0001"},
		{1023, "+00000-01-01 00:00:00.1023"},
		{1024, "+00000-01-01 00:00:01.0000"},
		{1 << 16, "+00000-01-01 00:01:00.0000"},
		{1 << 22, "+00000-01-01 01:00:00.0000"},
		{1<<26 - 1, "+00000-01-01 15:63:63.1023"},
		{1 << 26, "+00000-01-02 00:00:00.0000"},
		{123456789, "+00000-01-02 13:27:51.0277"},
		{27 * day, "+00000-01-28 00:00:00.0000"},
		{28 * day, "+00000-02-01 00:00:00.0000"},
		{364 * day, "+00000-14-01 00:00:00.0000"},
		{365 * day, "+00001-01-01 00:00:00.0000"},
		{97978941440, "+00003-14-02 00:00:00.0000"},
		{-366 * day, "-00001-01-01 00:00:00.0000"},
		{last, "+45934-07-04 00:00:00.0000"},
		{last - 1, "+45934-07-03 15:63:63.1023"},
		{-last, "-45935-07-28 00:00:00.0000"},
		{1 - last, "-45935-07-28 00:00:00.0001"},
	} {
		s, err := stamp.Print(c.t)
		check(t, s == c.s && err == api.OK, "Print", c.t, s, err, "and should be", c.s)
		at, err := stamp.Parse(c.s)
		check(t, at == c.t && err == api.OK, "Parse", c.s, at, err, "and should be", c.t)
	}
}

func TestPrintByTheChaptersWords(t *testing.T) {
	c := chance(1)
	for range 200000 {
		at := c.instant()
		d, _ := date.To(at)
		s, err := stamp.Print(at)
		check(t, s == wantPrint(d) && err == api.OK && len(s) == 26, "Print", at, s, err, "and should be", wantPrint(d))
	}
}

func TestPrintOfNoInstant(t *testing.T) {
	for _, at := range []int64{last + 1, -last - 1, 2 * last, math.MaxInt64, math.MinInt64, math.MinInt64 + 1} {
		s, err := stamp.Print(at)
		check(t, s == "" && err == api.ErrDate, "Print", at, s, err)
	}
}

func TestStampsWithoutADate(t *testing.T) {
	for _, s := range []string{
		"+00000-01-29 00:00:00.0000", "+00000-01-00 00:00:00.0000", "+00000-00-01 00:00:00.0000",
		"+00000-15-01 00:00:00.0000", "+00000-99-99 99:99:99.9999", "+00002-14-02 00:00:00.0000",
		"+00003-14-03 00:00:00.0000", "+00000-01-01 16:00:00.0000", "+00000-01-01 00:64:00.0000",
		"+00000-01-01 00:00:64.0000", "+00000-01-01 00:00:00.1024", "+00000-00-00 00:00:00.0000",
		"+45934-07-04 00:00:00.0001", "-45935-07-27 15:63:63.1023", "+45935-01-01 00:00:00.0000",
		"+99999-01-01 00:00:00.0000", "-99999-01-01 00:00:00.0000",
	} {
		at, err := stamp.Parse(s)
		check(t, at == 0 && err == api.ErrDate, "Parse", s, at, err)
	}
}

func TestTextsThatAreNoStamps(t *testing.T) {
	for _, s := range []string{
		"", "+", "+00000", "-00000", "+00000-01-01", "+00000-01-01 00:00:00", "+00000-01-01 00:00:00.000",
		"+00000-01-01 00:00:00.00000", " +00000-01-01 00:00:00.0000", "+00000-01-01 00:00:00.0000 ", "+00000-01-01 00:00:00.0000\n",
		" 00000-01-01 00:00:00.0000", "000000-01-01 00:00:00.0000", "00000-01-01 00:00:00.0000", "_00000-01-01 00:00:00.0000",
		"-00000-01-01 00:00:00.0000", "-00000-14-01 15:63:63.1023", "-00000-15-01 00:00:00.0000", "-0000001-01 00:00:00.0000",
		"+0000-01-01 00:00:00.00000", "+000000-1-01 00:00:00.0000", "+00000-1-001 00:00:00.0000", "+00000-01-1 000:00:00.0000",
		"+00000-+1-01 00:00:00.0000", "+00000--1-01 00:00:00.0000", "+0000 -01-01 00:00:00.0000", "++0000-01-01 00:00:00.0000",
		"+00000+01-01 00:00:00.0000", "+00000-01+01 00:00:00.0000", "+00000-01-01T00:00:00.0000", "+00000-01-01-00:00:00.0000",
		"+00000-01-01 00-00:00.0000", "+00000-01-01 00:00.00.0000", "+00000-01-01 00:00:00:0000", "+00000-01-01 00:00:00,0000",
		"+00000-0a-01 00:00:00.0000", "+0x001-01-01 00:00:00.0000", "+0_001-01-01 00:00:00.0000", "+00000-01-01 00:00:00.1e02",
		"+00000/01/01 00:00:00.0000", "+00000-01-01\x0000:00:00.0000", "+00000-01-01\u00a00:00:00.0000", "+0000\u0661-01-01 0:00:00.0000",
		"\u221200001-01-01 00:00:00.00", "+00000-99-99", strings.Repeat("+", 26), strings.Repeat("0", 26), strings.Repeat(" ", 26),
		strings.Repeat("\xff", 26), "+00000-01-01 00:00:00.0000+00000-01-01 00:00:00.0000", strings.Repeat("0", 1<<20),
	} {
		at, err := stamp.Parse(s)
		check(t, at == 0 && err == api.ErrText, "Parse", strconv.Quote(s), at, err)
	}
}

// A stamp with one byte changed for any other, one left out or one put in.
func TestParseWithOneByteChanged(t *testing.T) {
	for _, s := range []string{
		"+00000-01-01 00:00:00.0000", "-00001-14-02 15:63:63.1023", "+00003-14-02 09:10:59.0999", "+45934-07-04 00:00:00.0000",
		"-45935-07-28 00:00:00.0000", "-00010-10-10 10:10:10.0010", "+12345-12-28 13:14:15.0678",
	} {
		for i := range len(s) + 1 {
			checkParse(t, s[:i])
			checkParse(t, s[i:])
			for b := range 256 {
				c := string([]byte{byte(b)})
				checkParse(t, s[:i]+c+s[i:])
				if i < len(s) {
					checkParse(t, s[:i]+c+s[i+1:])
				}
			}
			if i < len(s) {
				checkParse(t, s[:i]+s[i+1:])
			}
		}
	}
}

// anyStamp: of a stamp's form, with a date or without.
func (c *chance) anyStamp() string {
	sign := [2]string{"+", "-"}[c.below(2)]
	return sign + fmt.Sprintf("%05d-%02d-%02d %02d:%02d:%02d.%04d",
		c.below(48000)/[3]int64{1, 100, 20000}[c.below(3)], c.below(16), c.below(31), c.below(17), c.below(66), c.below(66), c.below(1030))
}

func TestParseByTheChaptersWords(t *testing.T) {
	c := chance(2)
	taken, dateless, formless := 0, 0, 0
	for range 200000 {
		s := c.anyStamp()
		checkParse(t, s)
		switch _, err := stamp.Parse(s); err {
		case api.OK:
			taken++
		case api.ErrDate:
			dateless++
		case api.ErrText:
			formless++
		}
	}
	check(t, taken > 1000 && dateless > 1000 && formless > 1000, "taken, dateless and formless", taken, dateless, formless)
}

func TestStampExamples(t *testing.T) {
	s, err := stamp.Print(123456789)
	check(t, s == "+00000-01-02 13:27:51.0277" && err == api.OK, "Print", s, err)
	at, err := stamp.Parse(s)
	check(t, at == 123456789 && err == api.OK, "Parse", at, err)
	at, err = stamp.Parse("+00000-01-29 00:00:00.0000")
	check(t, at == 0 && err == api.ErrDate, "Parse", at, err)
	at, err = stamp.Parse(" 00000-01-01 00:00:00.0000")
	check(t, at == 0 && err == api.ErrText, "Parse", at, err)
}

// P9.2.

func TestStampsThereAndBack(t *testing.T) {
	c := chance(3)
	for range 200000 {
		at := c.instant()
		s, err := stamp.Print(at)
		check(t, err == api.OK, "Print", at, err)
		back, err := stamp.Parse(s)
		check(t, back == at && err == api.OK, "Parse", s, back, err, "and should be", at)
	}
}

func TestWhatParseTakesIsPrinted(t *testing.T) {
	c := chance(4)
	taken := 0
	for range 200000 {
		s := c.anyStamp()
		at, err := stamp.Parse(s)
		if err != api.OK {
			continue
		}
		taken++
		back, err := stamp.Print(at)
		check(t, back == s && err == api.OK, "Print", at, back, err, "and should be", s)
	}
	check(t, taken > 1000, "taken", taken)
}

// P9.4.

func TestOrderOfStamps(t *testing.T) {
	c := chance(5)
	ats := []int64{0, 1, last, last - 1}
	for range 50000 {
		at := c.instant()
		ats = append(ats, at, at+1, at+1<<c.below(50))
	}
	for year := range int64(45934) { // the last instants of years and the first of the next ones
		at, _ := date.From(api.Date{Year: int(year) + 1, Month: 1, Day: 1})
		ats = append(ats, at-1, at)
	}
	ats = slices.DeleteFunc(ats, func(at int64) bool { return at < 0 || at > last })
	slices.Sort(ats)
	ats = slices.Compact(ats)
	ahead := ""
	for _, at := range ats {
		s, err := stamp.Print(at)
		check(t, err == api.OK && ahead < s, "Print", at, s, err, "comes behind", ahead)
		ahead = s
	}
}
