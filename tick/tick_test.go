package tick_test

import (
	"testing"

	"linchpin/api"
	"linchpin/tick"
)

const (
	last = api.Last
	top  = 1<<64 - 1
)

func TestMay(t *testing.T) {
	for _, c := range []struct {
		t  uint64
		ok bool
	}{{0, true}, {17, true}, {last - 1, true}, {last, false}, {last + 1, false}, {top, false}} {
		if ok := tick.May(c.t); ok != c.ok {
			t.Errorf("P1.1: May(%v) = %v", c.t, ok)
		}
	}
}

func TestAdd(t *testing.T) {
	for _, c := range []struct {
		t, span, sum uint64
		code         api.Code
	}{
		{0, 0, 0, api.OK},
		{5, 7, 12, api.OK},
		{0, last - 1, last - 1, api.OK},
		{last - 1, 0, last - 1, api.OK},
		{last - 2, 1, last - 1, api.OK},
		{last - 1, 1, 0, api.Horizon},
		{0, last, 0, api.Horizon},
		{0, last + 1, 0, api.Horizon},
		{last, 0, 0, api.Horizon},
		{last - 1, last, 0, api.Horizon},
		{5, top, 0, api.Horizon},
		{5, top - 4, 0, api.Horizon},
		{top, 5, 0, api.Horizon},
		{top, top, 0, api.Horizon},
	} {
		if sum, code := tick.Add(c.t, c.span); sum != c.sum || code != c.code {
			t.Errorf("P1.1: Add(%v, %v) = %v, %v", c.t, c.span, sum, code)
		}
	}
}

func TestLeft(t *testing.T) {
	for _, c := range []struct{ t, until, left uint64 }{
		{0, 0, 0}, {5, 9, 4}, {9, 5, 0}, {9, 9, 0}, {9, 10, 1}, {0, top, top}, {top, 0, 0},
	} {
		if left := tick.Left(c.t, c.until); left != c.left {
			t.Errorf("P1.1: Left(%v, %v) = %v", c.t, c.until, left)
		}
	}
}

func TestUp(t *testing.T) {
	for _, c := range []struct{ n, by, up uint64 }{
		{0, 3, 0}, {1, 3, 1}, {5, 3, 2}, {6, 3, 2}, {7, 3, 3}, {7, 1, 7}, {7, 0, 0}, {0, 0, 0},
		{top, 1, top}, {top, top, 1}, {top - 1, top, 1}, {top, 2, 1 << 63}, {top, top - 1, 2},
	} {
		if up := tick.Up(c.n, c.by); up != c.up {
			t.Errorf("P1.1: Up(%v, %v) = %v", c.n, c.by, up)
		}
	}
}

func TestWindow(t *testing.T) {
	for _, c := range []struct {
		t, phase, period, k, at uint64
		code                    api.Code
	}{
		{17, 5, 10, 1, 15, api.OK},
		{14, 5, 10, 0, 5, api.OK},
		{15, 5, 10, 1, 15, api.OK},
		{5, 5, 1, 0, 5, api.OK},
		{8, 5, 1, 3, 8, api.OK},
		{last - 1, 0, 1, last - 1, last - 1, api.OK},
		{last - 1, 0, last, 0, 0, api.OK},
		{last - 1, last - 1, 5, 0, last - 1, api.OK},
		{4, 5, 10, 0, 0, api.Arg},
		{9, 0, 0, 0, 0, api.Arg},
		{9, 0, last + 1, 0, 0, api.Arg},
		{9, 0, top, 0, 0, api.Arg},
		{last, 0, 1, 0, 0, api.Horizon},
		{9, last, 1, 0, 0, api.Horizon},
		{last, 0, 0, 0, 0, api.Horizon},
		{top, top, top, 0, 0, api.Horizon},
		{9, last, 0, 0, 0, api.Horizon},
	} {
		if k, at, code := tick.Window(c.t, c.phase, c.period); k != c.k || at != c.at || code != c.code {
			t.Errorf("P1.2: Window(%v, %v, %v) = %v, %v, %v", c.t, c.phase, c.period, k, at, code)
		}
	}
}

func TestNext(t *testing.T) {
	for _, c := range []struct {
		t, phase, period, next uint64
		code                   api.Code
	}{
		{17, 5, 10, 25, api.OK},
		{14, 5, 10, 15, api.OK},
		{15, 5, 10, 25, api.OK},
		{4, 5, 10, 5, api.OK},
		{5, 5, 1, 6, api.OK},
		{0, last - 1, 7, last - 1, api.OK},
		{last - 2, 0, 1, last - 1, api.OK},
		{last - 1, 0, 1, 0, api.Horizon},
		{0, 0, last, 0, api.Horizon},
		{0, 0, last - 1, last - 1, api.OK},
		{4, 5, 0, 0, api.Arg},
		{4, 5, last + 1, 0, api.Arg},
		{9, 5, top, 0, api.Arg},
		{last, 5, 0, 0, api.Horizon},
		{9, last, 10, 0, api.Horizon},
	} {
		if next, code := tick.Next(c.t, c.phase, c.period); next != c.next || code != c.code {
			t.Errorf("P1.2: Next(%v, %v, %v) = %v, %v", c.t, c.phase, c.period, next, code)
		}
	}
}

// What the windows are is told here by counting them through.
func TestWindowsFollow(t *testing.T) {
	for phase := uint64(0); phase < 6; phase++ {
		for period := uint64(1); period < 6; period++ {
			k, begin := uint64(0), phase
			for now := phase; now < 60; now++ {
				if now == begin+period {
					k, begin = k+1, now
				}
				gotK, at, code := tick.Window(now, phase, period)
				if gotK != k || at != begin || code != api.OK {
					t.Fatalf("P1.3: Window(%v, %v, %v) = %v, %v, %v", now, phase, period, gotK, at, code)
				}
				if next, code := tick.Next(now, phase, period); next != begin+period || code != api.OK {
					t.Fatalf("P1.3: Next(%v, %v, %v) = %v, %v", now, phase, period, next, code)
				}
			}
		}
	}
}

func TestTimesAreInTheirWindows(t *testing.T) {
	edges := []uint64{0, 1, 2, 1 << 31, 1<<61 - 1, 1 << 61, last - 2, last - 1}
	for _, now := range edges {
		for _, phase := range edges {
			for _, period := range append([]uint64{last}, edges[1:]...) {
				_, at, code := tick.Window(now, phase, period)
				if code != api.OK {
					continue
				}
				if at < phase || now < at || now-at >= period {
					t.Errorf("P1.3: Window(%v, %v, %v) begins at %v", now, phase, period, at)
				}
				next, code := tick.Next(now, phase, period)
				if code == api.OK && (next <= now || next-at > period) {
					t.Errorf("P1.3: Next(%v, %v, %v) = %v", now, phase, period, next)
				}
			}
		}
	}
}
