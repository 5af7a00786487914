// Package tick is layer 1: times that are checked. See shared/doc/01-tick.md.
package tick

import "linchpin/api"

// May: whether it is a time.
func May(t uint64) bool { return t < api.Last }

// Add: the time a span later. Horizon.
func Add(t, span uint64) (uint64, api.Code) {
	switch {
	case !May(t), span > api.Last, !May(sum(t, span)):
		return 0, api.Horizon
	}
	return sum(t, span), api.OK
}

// Left: how many ticks another time is later.
func Left(t, until uint64) uint64 {
	if until <= t {
		return 0
	}
	return until - t
}

// Up: a quotient, rounded up.
func Up(n, by uint64) uint64 {
	switch {
	case by == 0:
		return 0
	case n%by == 0:
		return n / by
	}
	return n/by + 1
}

// Window: which window a time is in, and when that begins. Horizon, Arg.
func Window(t, phase, period uint64) (uint64, uint64, api.Code) {
	switch {
	case !May(t), !May(phase):
		return 0, 0, api.Horizon
	case !isPeriod(period), t < phase:
		return 0, 0, api.Arg
	}
	k := (t - phase) / period
	return k, begin(phase, k, period), api.OK
}

// Next: the beginning of the first window that begins later. Horizon, Arg.
func Next(t, phase, period uint64) (uint64, api.Code) {
	switch {
	case !May(t), !May(phase):
		return 0, api.Horizon
	case !isPeriod(period):
		return 0, api.Arg
	case t < phase:
		return phase, api.OK
	}
	return Add(begin(phase, (t-phase)/period, period), period)
}

func isPeriod(n uint64) bool { return n >= 1 && n <= api.Last }

// sum can't wrap: it is asked only of a time and a span, 2^63 together at most.
func sum(t, span uint64) uint64 { return t + span }

// begin can't wrap: it is asked only of windows that begin at a time.
func begin(phase, k, period uint64) uint64 { return phase + k*period }
