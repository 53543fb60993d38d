package sky

import (
	"orrery/api"
	"orrery/cheb"
	"orrery/frame"
	"orrery/orbit"
	"orrery/vec"
	"orrery/wave"
)

// gathered: what own tells of body i and of all bodies about which it goes, added up from body i on to the root. (What a way begins with, a vector or a box, is 0 as its zero value is.)
func gathered[T any](l []api.Body, i int, own func(api.Body) (T, api.Errno), add func(a, b T) (T, api.Errno)) (T, api.Errno) {
	var sum, none T
	for i != root {
		way, err := own(l[i])
		if err != api.OK {
			return none, err
		}
		if sum, err = add(way, sum); err != api.OK {
			return none, err
		}
		i = l[i].Up
	}
	return sum, api.OK
}

// ownWay: the way from the body about which b goes to b, at d days.
func ownWay(l []api.Frame, b api.Body, d float64) (api.Vec, api.Errno) {
	switch b.Kind {
	case api.Orbiting:
		return orbit.At(b.Orbit, d)
	case api.Waving:
		return wave.At(b.Waves, d)
	case api.Tabled:
		return cheb.At(b.Table, d)
	case api.Riding:
		return frame.Root(l, b.Frame, d, b.At)
	}
	return b.At, api.OK // Fixed
}

// ownBox: what holds all ways from the body about which b goes to b, over the days of t.
func ownBox(l []api.Frame, b api.Body, t api.Span) (api.Box, api.Errno) {
	switch b.Kind {
	case api.Orbiting:
		return orbit.Box(b.Orbit, t)
	case api.Waving:
		return wave.Box(b.Waves, t)
	case api.Tabled:
		return cheb.Box(b.Table, t)
	}
	at, err := vec.BoxOf(b.At)
	if err != api.OK || b.Kind == api.Fixed {
		return at, err
	}
	return frame.RootBox(l, b.Frame, t, at) // Riding
}
