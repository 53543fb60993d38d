package step_test

import (
	"math"
	"slices"
	"testing"

	"orrery/api"
	"orrery/step"
)

// A race is masses, their g and how many steps they go.
type race struct {
	l []api.Mass
	g float64
	n int
}

// races: of tame masses many steps, of any a few.
func races(seed chance, n int) []race {
	var all []race
	for i := range n {
		l, g := seed.tame()
		all = append(all, race{l, g, int(seed.either(seed.below(300)))}, race{seed.masses(), seed.g(), int(seed.below(7)) - 3})
		if i%50 == 0 {
			all = append(all, race{l, g, int(seed.either(api.MaxSteps))})
		}
	}
	return all
}

// P14.1: masses that leave the grid.

func TestLeaving(t *testing.T) {
	gone := func(l []api.Mass, g float64, n int) {
		t.Helper()
		check(t, run(l, g, n).refused(api.ErrGrid), "Run", l, g, n, run(l, g, n))
		_, ok := wantRun(l, g, n)
		check(t, !ok, "should stay:", l, g, n)
	}
	for k := range 3 {
		for _, sign := range []int64{1, -1} {
			of := func(x, p int64) []api.Mass {
				m := api.Mass{M: 1}
				m.X[k], m.P[k] = sign*x, sign*p
				return []api.Mass{{M: 1}, m}
			}
			runs(t, of(far-2, 2), 0, 1, of(far, 2)...)
			runs(t, of(far, 2), 0, -1, of(far-2, 2)...)
			gone(of(far, 2), 0, 1)   // behind the first drift
			gone(of(far-1, 2), 0, 1) // behind the second
			gone(of(far-20, 2), 0, 11)
			gone(of(far-20, 2), 0, 4096)
			gone(of(far, -2), 0, -1)
			gone(of(0, hard), 0, 1)
		}
	}
}

// What is back on the grid behind a later part had left it all the same.
func TestLeavingAndBack(t *testing.T) {
	for _, sign := range []int64{1, -1} {
		out := mass(heavy, sign*far, sign*2*heavy) // by 1 out, and then drawn back at full strength
		holder := mass(heavy, sign*(far-5000), 0)
		l := []api.Mass{out, holder}
		check(t, run(l, strong, 1).refused(api.ErrGrid), "Run", l, run(l, strong, 1))
		l[0].X[0] -= sign // now it touches the end
		runs(t, l, strong, 1, mass(heavy, sign*(far-2047), sign*(2*heavy-tug)), mass(heavy, sign*(far-5000+2048), sign*tug))
	}
}

// nearTo: one at rest, to which a mass of impulses about 2^50 comes by its first drift, as near as this.
func nearTo(sign, off int64) api.Mass { return mass(heavy, sign*(1<<29+off), 0) }

func TestImpulsesThatBecomeTooGreat(t *testing.T) {
	for _, sign := range []int64{1, -1} {
		l := []api.Mass{mass(heavy, 0, sign*(hard-tug)), nearTo(sign, 1<<20)}
		got := run(l, strong, 1)
		check(t, got.err == api.OK && got.l[0].P[0] == sign*hard && got.l[1].P[0] == -sign*tug, got)
		l[0].P[0] += sign
		check(t, run(l, strong, 1).refused(api.ErrGrid), l, run(l, strong, 1))
	}
}

// Within a kick impulses may be greater than they may stay.
func TestImpulsesWithinAKick(t *testing.T) {
	for _, sign := range []int64{1, -1} {
		runner, ahead, behind := mass(heavy, 0, sign*hard), nearTo(sign, 1<<20), nearTo(sign, -1<<20)
		for _, l := range [][]api.Mass{{runner, ahead, behind}, {runner, behind, ahead}, {ahead, runner, behind}, {behind, ahead, runner}} {
			got := run(l, strong, 1)
			check(t, got.err == api.OK && got.l[slices.Index(l, runner)] == mass(heavy, sign<<30, sign*hard), l, got)
		}
		back := append(slices.Repeat([]api.Mass{behind}, 7), runner)
		got := run(back, strong, 1)
		check(t, got.err == api.OK && got.l[7].P[0] == sign*(hard-7*tug), back, got)
		on := append(slices.Repeat([]api.Mass{ahead}, 7), runner)
		check(t, run(on, strong, 1).refused(api.ErrGrid), on, run(on, strong, 1))
	}
}

// P14.2.

func TestThereAndBack(t *testing.T) {
	long, left := 0, 0
	for _, r := range races(21, 300) {
		got := run(r.l, r.g, r.n)
		if got.err != api.OK {
			check(t, got.refused(api.ErrGrid), r, got)
			left++
			continue
		}
		runs(t, got.l, r.g, -r.n, r.l...)
		if max(r.n, -r.n) > 50 && !slices.Equal(got.l, r.l) {
			long++
		}
	}
	check(t, long > 200 && left > 20 && left < 250, long, "long ones,", left, "left")
}

// P14.3.

func TestSumsStay(t *testing.T) {
	changed := 0
	for _, r := range races(31, 300) {
		got := run(r.l, r.g, r.n)
		if got.err != api.OK {
			continue
		}
		s := sum(r.l)
		check(t, s.err == api.OK && sum(got.l) == s, "Sum", r, got, s)
		for i, m := range got.l {
			if m.P != r.l[i].P {
				changed++
			}
		}
	}
	check(t, changed > 1000, changed)
}

// P14.4.

// shuffled: an order of n.
func shuffled(c *chance, n int) []int {
	order := make([]int, n)
	for i := range order {
		j := int(c.below(int64(i + 1)))
		order[i], order[j] = order[j], i
	}
	return order
}

func ordered(l []api.Mass, order []int) []api.Mass {
	m := make([]api.Mass, 0, len(order))
	for _, i := range order {
		m = append(m, l[i])
	}
	return m
}

func TestWhoeverIsFirst(t *testing.T) {
	c := chance(41)
	for _, r := range races(42, 200) {
		got := run(r.l, r.g, r.n)
		order := shuffled(&c, len(r.l))
		other := run(ordered(r.l, order), r.g, r.n)
		if got.err == api.OK {
			check(t, other.is(ordered(got.l, order), api.OK), r, order, got, other)
		} else {
			check(t, other.refused(got.err), r, order, got, other)
		}
	}
}

// P14.5.

// moved: masses with all places so much on.
func moved(l []api.Mass, by [3]int64) []api.Mass {
	m := slices.Clone(l)
	for i := range m {
		for k := range 3 {
			m[i].X[k] += by[k]
		}
	}
	return m
}

// mirrored: masses with one axis negated.
func mirrored(l []api.Mass, k int) []api.Mass {
	m := slices.Clone(l)
	for i := range m {
		m[i].X[k], m[i].P[k] = -m[i].X[k], -m[i].P[k]
	}
	return m
}

func TestAnywhere(t *testing.T) {
	c := chance(51)
	both := 0
	for _, r := range races(52, 200) {
		by := c.three(far)
		got, other := run(r.l, r.g, r.n), run(moved(r.l, by), r.g, r.n)
		if got.err != api.OK || other.err != api.OK {
			continue
		}
		both++
		check(t, other.is(moved(got.l, by), api.OK), "moved by", by, r, got, other)
	}
	check(t, both > 100, both)
}

func TestMirrored(t *testing.T) {
	for _, r := range races(53, 200) {
		got := run(r.l, r.g, r.n)
		for k := range 3 {
			other := run(mirrored(r.l, k), r.g, r.n)
			if got.err == api.OK {
				check(t, other.is(mirrored(got.l, k), api.OK), "axis", k, r, got, other)
			} else {
				check(t, other.refused(got.err), "axis", k, r, got, other)
			}
		}
	}
}

// P14.6.

func TestOnAndOn(t *testing.T) {
	c := chance(61)
	for _, r := range races(62, 300) {
		n := int(c.below(int64(max(r.n, -r.n) + 1)))
		if r.n < 0 {
			n = -n
		}
		whole, part := run(r.l, r.g, r.n), run(r.l, r.g, n)
		if whole.err == api.OK {
			check(t, part.err == api.OK, r, n, part)
			runs(t, part.l, r.g, r.n-n, whole.l...)
		} else if part.err == api.OK {
			check(t, run(part.l, r.g, r.n-n).refused(whole.err), r, n, whole, part)
		}
	}
}

func TestOnBeyondTheMostSteps(t *testing.T) {
	c := chance(63)
	for range 5 {
		l, g := c.tame()
		at, ones := l, l
		for range 4096 {
			one := run(ones, g, 1)
			check(t, one.err == api.OK, ones, g, one)
			ones = one.l
		}
		runs(t, at, g, 4096, ones...)
		next := run(ones, g, 4096)
		check(t, next.err == api.OK, next)
		runs(t, next.l, g, -4096, ones...)
	}
}

// DOC.md's rules for all layers.

func TestWhatIsHandedInStays(t *testing.T) {
	c := chance(71)
	for range 300 {
		l, g := c.tame()
		room := append(slices.Clone(l), c.masses()...)
		before := slices.Clone(room)
		in := room[:len(l)]
		n := int(c.either(c.below(20)))
		got := run(in, g, n)
		again := run(in, g, n)
		step.Check(in)
		sum(in)
		energy(in, g)
		check(t, slices.Equal(room, before), "changed:", room, before)
		check(t, again.is(got.l, got.err), "asked twice:", got, again)
		all := got.l[:cap(got.l)] // an answer is new memory, its spare room too
		for i := range all {
			all[i] = api.Mass{M: 77}
		}
		check(t, slices.Equal(room, before), "shared:", room, before)
		check(t, run(in, g, n).is(again.l, again.err), "kept:", again)
	}
}

func TestNoStepsAnswerNewMemory(t *testing.T) {
	l := two()
	got := run(l, 1, 0)
	got.l[0].M = 5
	check(t, l[0].M == 1000, l)
}

func TestWrongNumbersEverywhere(t *testing.T) {
	wholes := []int64{0, 1, -1, heavy, far, -far, hard, -hard, hard + 1, math.MaxInt64, math.MinInt64}
	for _, m := range wholes {
		for _, x := range wholes {
			for _, p := range wholes {
				for _, n := range []int{1, -1, 2, 4096, -4096, math.MinInt} {
					for _, g := range []float64{0, 1, strong, math.NaN(), math.Inf(1)} {
						l := []api.Mass{{M: m, X: [3]int64{0, x}, P: [3]int64{p}}, {M: 1}}
						got := run(l, g, n)
						check(t, got.err == api.OK || got.refused(got.err), l, g, n, got)
					}
				}
			}
		}
	}
}
