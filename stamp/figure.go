package stamp

import (
	"math"
	"strconv"
	"strings"

	"orrery/api"
	"orrery/grain"
)

const (
	mostPlaces = 9
	mostDigits = 10 // of a whole number
	most       = 1 << 30
)

// Figure: the figure of so many places nearest to x, of two equally near ones the even one.
func Figure(x float64, places int) (string, api.Errno) {
	switch {
	case places < 0 || places > mostPlaces:
		return "", api.ErrArg
	case !grain.Fit(x) || math.Abs(x) > most:
		return "", api.ErrFit
	}
	s := strconv.FormatFloat(x, 'f', places, 64)
	if isNought(s) {
		s = strings.TrimPrefix(s, "-")
	}
	return s, api.OK
}

// Value: the number nearest to what s writes, ties to even.
func Value(s string) (float64, api.Errno) {
	if !isFigure(s) {
		return 0, api.ErrText
	}
	x, err := strconv.ParseFloat(s, 64)
	if err != nil || isAbove(s) {
		return 0, api.ErrFit
	}
	return x, api.OK
}

// isFigure: is s a figure that may be read?
func isFigure(s string) bool {
	digits, minus := strings.CutPrefix(s, "-")
	whole, part, point := strings.Cut(digits, ".")
	switch {
	case !areDigits(whole, mostDigits), len(whole) > 1 && whole[0] == '0':
		return false
	case point && !areDigits(part, mostPlaces):
		return false
	}
	return !minus || !isNought(s)
}

// isAbove: does a figure write a magnitude above 2^30? By its digits, since the number nearest to it may be 2^30 all the same.
func isAbove(figure string) bool {
	whole, part, _ := strings.Cut(strings.TrimPrefix(figure, "-"), ".")
	units, err := strconv.ParseInt(whole, 10, 64)
	return err != nil || units > most || units == most && !isNought(part)
}

// areDigits: is s one digit or more, up to so many, and nothing else?
func areDigits(s string, upTo int) bool {
	if len(s) == 0 || len(s) > upTo {
		return false
	}
	for i := range len(s) {
		if !isDigit(s[i]) {
			return false
		}
	}
	return true
}

// isNought: are all digits of a figure 0?
func isNought(figure string) bool { return strings.Trim(figure, "-0.") == "" }
