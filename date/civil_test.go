package date_test

import (
	"math"
	"slices"
	"testing"

	"orrery/api"
	"orrery/date"
)

// jumps: a list that may be: somewhere, or up to an end of the range, a day or more apart.
func (c *chance) jumps() []api.Jump {
	n := c.below(api.MaxJumps + 1)
	if c.below(4) == 0 {
		n = api.MaxJumps
	}
	apart := day << c.below(18)
	ats := make([]int64, n)
	at := c.instant()/2 - last/4
	if c.below(4) == 0 {
		at = -last
	}
	for i := range ats {
		ats[i] = at
		at += day
		if c.below(2) == 0 {
			at += c.below(apart)
		}
	}
	if n > 0 && c.below(4) == 0 { // the last one at the last instant
		off := last - ats[n-1]
		for i := range ats {
			ats[i] += off
		}
	}
	l := make([]api.Jump, n)
	way := c.below(3)
	for i, at := range ats {
		l[i] = api.Jump{At: at, Add: 1024}
		if way == 0 || way == 1 && c.below(2) == 0 {
			l[i].Add = -1024
		}
	}
	return l
}

// near: instants at which a list of jumps may tell something, and a few others.
func (c *chance) near(l []api.Jump) []int64 {
	ts := []int64{last, -last, last - 1, 1 - last, 0, c.instant(), c.instant()}
	for _, j := range l {
		ts = append(ts, j.At, j.At-1, j.At+1, j.At-c.below(3000), j.At+c.below(3000))
	}
	return slices.DeleteFunc(ts, func(t int64) bool { return t < -last || t > last })
}

// wantCivil: t plus the Adds of all jumps whose At is at most t.
func wantCivil(l []api.Jump, t int64) int64 {
	c := t
	for _, j := range l {
		if j.At <= t {
			c += int64(j.Add)
		}
	}
	return c
}

// wantBack: all instants that can be so far off, tried one by one.
func wantBack(l []api.Jump, c int64) []int64 {
	var found []int64
	for k := int64(-api.MaxJumps); k <= api.MaxJumps; k++ {
		t := c + 1024*k
		if -last <= t && t <= last && wantCivil(l, t) == c {
			found = append(found, t)
		}
	}
	return found
}

// P8.1.

// days: jumps a day apart, from so many days on.
func days(first, n int64) []api.Jump {
	l := make([]api.Jump, n)
	for i := range l {
		l[i] = api.Jump{At: (first + int64(i)) * day, Add: 1024}
	}
	return l
}

func TestCheck(t *testing.T) {
	for _, c := range []struct {
		l   []api.Jump
		err api.Errno
	}{
		{nil, api.OK},
		{[]api.Jump{}, api.OK},
		{[]api.Jump{{At: 5, Add: 1024}}, api.OK},
		{[]api.Jump{{At: 5, Add: -1024}}, api.OK},
		{[]api.Jump{{At: -last, Add: 1024}, {At: last, Add: -1024}}, api.OK},
		{[]api.Jump{{At: 7, Add: 1024}, {At: 7 + day, Add: 1024}}, api.OK},
		{days(-api.MaxDays, 64), api.OK},
		{days(api.MaxDays-63, 64), api.OK},
		{days(api.MaxDays-62, 64), api.ErrJumps}, // the last is no instant
		{days(-api.MaxDays-1, 64), api.ErrJumps}, // the first is none
		{days(0, 65), api.ErrLong},
		{make([]api.Jump, 65), api.ErrLong}, // though they may not be either
		{make([]api.Jump, 1000), api.ErrLong},
		{make([]api.Jump, 64), api.ErrJumps},
		{[]api.Jump{{At: 7, Add: 1024}, {At: 6 + day, Add: 1024}}, api.ErrJumps},
		{[]api.Jump{{At: 7, Add: 1024}, {At: 7, Add: 1024}}, api.ErrJumps},
		{[]api.Jump{{At: 7 + day, Add: 1024}, {At: 7, Add: 1024}}, api.ErrJumps},
		{[]api.Jump{{At: last, Add: 1024}, {At: -last, Add: 1024}}, api.ErrJumps},
		{[]api.Jump{{At: 0, Add: 1024}, {At: 5 * day, Add: 1024}, {At: 4 * day, Add: 1024}}, api.ErrJumps},
	} {
		err := date.Check(c.l)
		check(t, err == c.err, c.l, err)
	}
}

func TestNumbersOfAJump(t *testing.T) {
	for _, where := range []int{0, 1, 31, 63} {
		for _, add := range []int{0, 1, -1, 1023, 1025, -1023, -1025, 2048, -2048, 1<<32 + 1024, 1<<32 - 1024, math.MaxInt, math.MinInt} {
			l := days(-32, 64)
			l[where].Add = add
			check(t, date.Check(l) == api.ErrJumps, "Add", add, "at", where)
		}
		for _, at := range []int64{last + 1, -last - 1, math.MaxInt64, math.MinInt64, math.MinInt64 + day} {
			l := days(-32, 64)
			l[where].At = at
			check(t, date.Check(l) == api.ErrJumps, "At", at, "at", where)
		}
	}
}

func TestCivilByTheChaptersWords(t *testing.T) {
	c := chance(11)
	for range 2000 {
		l := c.jumps()
		check(t, date.Check(l) == api.OK, l)
		for _, at := range c.near(l) {
			got, err := date.Civil(l, at)
			check(t, got == wantCivil(l, at) && err == api.OK, "Civil", l, at, got, err)
		}
	}
}

func TestBackByTheChaptersWords(t *testing.T) {
	c := chance(12)
	none, one, two := 0, 0, 0
	for range 300 {
		l := c.jumps()
		for _, at := range c.near(l) {
			for _, civil := range []int64{at, wantCivil(l, at), wantCivil(l, at) + c.below(5) - 2, at + 1024, at - 1024} {
				got, err := date.Back(l, civil)
				if want := wantBack(l, civil); !slices.Equal(got, want) || err != api.OK {
					t.Fatal("Back", l, civil, got, err, "and should be", want)
				}
				switch len(got) {
				case 0:
					none++
				case 1:
					one++
				case 2:
					two++
				}
			}
		}
	}
	check(t, none > 1000 && one > 1000 && two > 1000, "none, one and two were answered", none, one, two, "times")
}

func TestBackAtItsEnds(t *testing.T) {
	up := days(0, 64)
	for _, c := range []struct {
		l     []api.Jump
		civil int64
		want  []int64
		err   api.Errno
	}{
		{nil, 2 * last, nil, api.OK},
		{nil, -2 * last, nil, api.OK},
		{nil, 2*last + 1, nil, api.ErrDate},
		{nil, -2*last - 1, nil, api.ErrDate},
		{nil, math.MaxInt64, nil, api.ErrDate},
		{nil, math.MinInt64, nil, api.ErrDate},
		{nil, last, []int64{last}, api.OK},
		{nil, last + 1, nil, api.OK},
		{nil, -last, []int64{-last}, api.OK},
		{nil, -last - 1, nil, api.OK},
		{up, last + 64*1024, []int64{last}, api.OK}, // the farthest that an instant can be off
		{up, last + 64*1024 + 1, nil, api.OK},
		{up, 2*last + 1, nil, api.ErrDate},
		{[]api.Jump{{At: last, Add: 1024}}, last, nil, api.OK},
		{[]api.Jump{{At: last, Add: -1024}}, last - 1024, []int64{last - 1024, last}, api.OK},
		{[]api.Jump{{At: -last, Add: 1024}}, -last, nil, api.OK},
		{[]api.Jump{{At: -last, Add: -1024}}, -last - 1024, []int64{-last}, api.OK},
	} {
		got, err := date.Back(c.l, c.civil)
		check(t, slices.Equal(got, c.want) && err == c.err, "Back", c.l, c.civil, got, err)
	}
}

func TestJumpsAreRefusedFirst(t *testing.T) {
	for want, l := range map[api.Errno][]api.Jump{
		api.ErrLong:  make([]api.Jump, 65),
		api.ErrJumps: {{At: 0, Add: 1024}, {At: day - 1, Add: 1024}},
	} {
		for _, at := range []int64{0, last, 3 * last, math.MinInt64} {
			c, err := date.Civil(l, at)
			check(t, c == 0 && err == want, "Civil", at, c, err)
			ts, err := date.Back(l, at)
			check(t, len(ts) == 0 && err == want, "Back", at, ts, err)
		}
	}
	c, err := date.Civil(days(0, 64), last+1)
	check(t, c == 0 && err == api.ErrDate, "Civil", c, err)
}

func TestCivilExamples(t *testing.T) {
	l := []api.Jump{{At: 1 << 30, Add: 1024}, {At: 1 << 31, Add: -1024}}
	c, err := date.Civil(l, 1<<30)
	check(t, c == 1<<30+1024 && err == api.OK, "Civil", c, err)
	ts, err := date.Back(l, 1<<30)
	check(t, len(ts) == 0 && err == api.OK, "Back", ts, err)
	ts, err = date.Back(l, 1<<31)
	check(t, slices.Equal(ts, []int64{1<<31 - 1024, 1 << 31}) && err == api.OK, "Back", ts, err)
}

// P8.4.

func TestCivilThereAndBack(t *testing.T) {
	s := chance(13)
	for range 500 {
		l := s.jumps()
		for _, at := range s.near(l) {
			c, err := date.Civil(l, at)
			check(t, err == api.OK, l, at, err)
			ts, err := date.Back(l, c)
			check(t, err == api.OK && slices.Contains(ts, at) && len(ts) <= 2, "Back", l, c, ts, err, "should hold", at)
			ts, _ = date.Back(l, at)
			for _, x := range ts {
				c, err := date.Civil(l, x)
				check(t, c == at && err == api.OK, "Civil", l, x, c, err, "should be", at)
			}
		}
	}
}

// Rule 3: what is handed in stays as it is, its spare room too, and an answer is new memory.
func TestNothingIsChangedOrShared(t *testing.T) {
	room := append(days(0, 32), api.Jump{At: 77, Add: 5}, api.Jump{At: 78, Add: 6})
	was := slices.Clone(room)
	l := room[:32]
	date.Check(l)
	date.Civil(l, 40*day)
	a, _ := date.Back([]api.Jump{{At: day, Add: -1024}}, day-1024)
	check(t, slices.Equal(a, []int64{day - 1024, day}), a)
	a[0], a[1] = 1, 2
	b, _ := date.Back([]api.Jump{{At: day, Add: -1024}}, day-1024)
	check(t, slices.Equal(b, []int64{day - 1024, day}), "a second answer is", b)
	date.Back(l, 7*day)
	check(t, slices.Equal(room, was), "changed:", room)
}

// P1.

func TestAnyNumbersOfJumps(t *testing.T) {
	c := chance(14)
	anyInt := func() int64 { return int64(c.bits()) >> c.below(64) }
	for range 20000 {
		l := c.jumps()
		for range c.below(3) {
			if len(l) > 0 {
				l[c.below(int64(len(l)))] = api.Jump{At: anyInt(), Add: int(anyInt())}
			}
		}
		for range c.below(3) {
			l = append(l, api.Jump{At: anyInt(), Add: 1024})
		}
		bad := date.Check(l)
		at := anyInt()
		civil, err := date.Civil(l, at)
		check(t, err == api.OK || civil == 0, "Civil", l, at, civil, err)
		ts, no := date.Back(l, at)
		check(t, no == api.OK && len(ts) <= 2 || no != api.OK && len(ts) == 0, "Back", l, at, ts, no)
		check(t, bad == api.OK || err == bad && no == bad, "Check", bad, "Civil", err, "Back", no)
	}
}
