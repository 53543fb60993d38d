package date

import "orrery/api"

// jumpTicks: by so much a jump goes on or back.
const jumpTicks = 1024

// Check: what is wrong with jumps.
func Check(l []api.Jump) api.Errno {
	if len(l) > api.MaxJumps {
		return api.ErrLong
	}
	for i, j := range l {
		switch {
		case !isInstant(j.At), j.Add != jumpTicks && j.Add != -jumpTicks:
			return api.ErrJumps
		case i > 0 && j.At-l[i-1].At < api.DayTicks: // both are instants: nothing overflows
			return api.ErrJumps
		}
	}
	return api.OK
}

// Civil: the civil instant of t.
func Civil(l []api.Jump, t int64) (int64, api.Errno) {
	if err := Check(l); err != api.OK {
		return 0, err
	}
	if !isInstant(t) {
		return 0, api.ErrDate
	}
	return t + added(l[:passed(l, t)]), api.OK
}

// Back: all instants whose civil instant is c, rising.
func Back(l []api.Jump, c int64) ([]int64, api.Errno) {
	if err := Check(l); err != api.OK {
		return nil, err
	}
	if !within(c, -2*api.MaxTick, 2*api.MaxTick) {
		return nil, api.ErrDate
	}
	var found []int64
	for n := range len(l) + 1 { // of the instants behind just n jumps one may do; those behind more jumps come later
		t := c - added(l[:n])
		if isInstant(t) && passed(l, t) == n {
			found = append(found, t)
		}
	}
	return found, api.OK
}

// passed: how many jumps have come at t.
func passed(l []api.Jump, t int64) int {
	n := 0
	for n < len(l) && l[n].At <= t {
		n++
	}
	return n
}

// added: the sum of what the jumps add.
func added(l []api.Jump) int64 {
	sum := int64(0)
	for _, j := range l {
		sum += int64(j.Add)
	}
	return sum
}
