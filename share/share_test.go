package share_test

import (
	"math/rand"
	"testing"

	"linchpin/api"
	"linchpin/share"
)

const top = 1<<64 - 1

func made(t *testing.T, s api.Share, phase uint64) *share.Meter {
	t.Helper()
	m, code := share.New(s, phase)
	if m == nil || code != api.OK {
		t.Fatalf("P5.1: New(%v, %v): %v", s, phase, code)
	}
	return m
}

// is tells a fault, if a call didn't come out as wanted.
func is(t *testing.T, what string, n uint64, code api.Code, want uint64, wantCode api.Code) {
	t.Helper()
	if n != want || code != wantCode {
		t.Errorf("%v: %v, %v, not %v, %v", what, n, code, want, wantCode)
	}
}

func TestMay(t *testing.T) {
	for _, c := range []struct {
		s  api.Share
		ok bool
	}{
		{api.Share{Budget: 1, Period: 1}, true},
		{api.Share{Budget: 3, Period: 10}, true},
		{api.Share{Budget: 10, Period: 10}, true},
		{api.Share{Budget: 1 << 40, Period: 1 << 40}, true},
		{api.Share{}, false},
		{api.Share{Budget: 0, Period: 10}, false},
		{api.Share{Budget: 11, Period: 10}, false},
		{api.Share{Budget: 1, Period: 0}, false},
		{api.Share{Budget: 1, Period: 1<<40 + 1}, false},
		{api.Share{Budget: top, Period: top}, false},
	} {
		if ok := share.May(c.s); ok != c.ok {
			t.Errorf("P5.1: May(%v): %v", c.s, ok)
		}
		m, code := share.New(c.s, 0)
		if (code == api.OK) != c.ok || (m != nil) != c.ok || !c.ok && code != api.Arg {
			t.Errorf("P5.1: New(%v): %v", c.s, code)
		}
	}
	for _, phase := range []uint64{api.Last, top} {
		if m, code := share.New(api.Share{Budget: 1, Period: 1}, phase); m != nil || code != api.Horizon {
			t.Errorf("P5.1: New at %v: %v", phase, code)
		}
		if m, code := share.New(api.Share{}, phase); m != nil || code != api.Arg {
			t.Errorf("P5.1: New of no share at %v: %v", phase, code)
		}
	}
}

func TestExample(t *testing.T) {
	m := made(t, api.Share{Budget: 3, Period: 10}, 0)
	n, code := m.Take(5, 4)
	is(t, "P5.1: Take at 5", n, code, 3, api.OK)
	n, code = m.Left(9)
	is(t, "P5.1: Left at 9", n, code, 0, api.OK)
	n, code = m.Wait(9)
	is(t, "P5.2: Wait at 9", n, code, 10, api.OK)
	n, code = m.Wait(10)
	is(t, "P5.2: Wait at 10", n, code, 10, api.OK)
	n, code = m.Take(10, top)
	is(t, "P5.1: Take at 10", n, code, 3, api.OK)
	m.Take(20, 2)
	n, code = m.Wait(21)
	is(t, "P5.2: Wait with one left", n, code, 21, api.OK)
}

func TestTakeByParts(t *testing.T) {
	m := made(t, api.Share{Budget: 3, Period: 10}, 7)
	for _, c := range []struct{ now, n, taken, left uint64 }{
		{7, 0, 0, 3}, {7, 1, 1, 2}, {16, 1, 1, 1}, {17, 0, 0, 3}, {17, 2, 2, 1}, {17, 2, 1, 0}, {26, 1, 0, 0}, {47, 3, 3, 0},
	} {
		n, code := m.Take(c.now, c.n)
		is(t, "P5.1: Take", n, code, c.taken, api.OK)
		n, code = m.Left(c.now)
		is(t, "P5.1: Left", n, code, c.left, api.OK)
	}
}

func TestCodes(t *testing.T) {
	m := made(t, api.Share{Budget: 3, Period: 10}, 5)
	calls := []func(now uint64) (uint64, api.Code){
		m.Left, m.Wait, func(now uint64) (uint64, api.Code) { return m.Take(now, 1) },
	}
	for i, call := range calls {
		for _, now := range []uint64{0, 4} {
			n, code := call(now)
			is(t, "P5.1: ahead of the phase", n, code, 0, api.Arg)
		}
		n, code := call(20 + uint64(i))
		if code != api.OK {
			t.Errorf("P5.1: call %v: %v, %v", i, n, code)
		}
		n, code = call(19 + uint64(i))
		is(t, "P5.1: ahead of the call ahead", n, code, 0, api.Arg)
		for _, now := range []uint64{api.Last, top} {
			n, code := call(now)
			is(t, "P5.1: beyond the horizon", n, code, 0, api.Horizon)
		}
	}
	n, code := m.Left(22)
	is(t, "P5.1: Left behind calls that were refused", n, code, 2, api.OK)
}

func TestWaitBeyondTheHorizon(t *testing.T) {
	m := made(t, api.Share{Budget: 1, Period: 1 << 40}, 0)
	n, code := m.Take(api.Last-10, 1)
	is(t, "P5.1: Take", n, code, 1, api.OK)
	n, code = m.Wait(api.Last - 1)
	is(t, "P5.2: Wait", n, code, 0, api.Horizon)
	n, code = m.Left(api.Last - 10)
	is(t, "P5.2: Left behind a Wait that was refused", n, code, 0, api.OK)
}

func TestMost(t *testing.T) {
	for _, c := range []struct {
		s          api.Share
		span, most uint64
	}{
		{api.Share{Budget: 3, Period: 10}, 0, 0},
		{api.Share{Budget: 3, Period: 10}, 1, 1},
		{api.Share{Budget: 3, Period: 10}, 6, 6},
		{api.Share{Budget: 3, Period: 10}, 7, 6},
		{api.Share{Budget: 3, Period: 10}, 10, 6},
		{api.Share{Budget: 3, Period: 10}, 11, 9},
		{api.Share{Budget: 10, Period: 10}, 11, 11},
		{api.Share{Budget: 1 << 40, Period: 1 << 40}, 1 << 40, 1 << 40},
		{api.Share{Budget: 1, Period: 1 << 40}, 1 << 40, 2},
		{api.Share{Budget: 1, Period: 2}, 1 << 40, 1<<39 + 1},
		{api.Share{Budget: 3, Period: 10}, 1<<40 + 1, 0},
		{api.Share{Budget: 3, Period: 10}, top, 0},
		{api.Share{Budget: 0, Period: 10}, 10, 0},
		{api.Share{Budget: 11, Period: 10}, 10, 0},
		{api.Share{Budget: 1, Period: 1<<40 + 1}, 10, 0},
	} {
		if most := share.Most(c.s, c.span); most != c.most {
			t.Errorf("P5.3: Most(%v, %v): %v", c.s, c.span, most)
		}
	}
}

// Whoever takes a unit whenever one is there never has more than Most.
func TestNeverMoreThanMost(t *testing.T) {
	r := rand.New(rand.NewSource(7))
	for range 60 {
		period := 1 + uint64(r.Intn(12))
		s := api.Share{Budget: 1 + uint64(r.Intn(int(period))), Period: period}
		phase := uint64(r.Intn(20))
		m := made(t, s, phase)
		sums, inWindow := []uint64{0}, uint64(0)
		idle := r.Intn(4)
		for now := phase; now < phase+80; now++ {
			if (now-phase)%period == 0 {
				inWindow = 0
			}
			wants := uint64(1)
			if r.Intn(4) < idle {
				wants = 0
			}
			n, code := m.Take(now, wants)
			is(t, "P5.1: Take", n, code, min(wants, s.Budget-inWindow), api.OK)
			inWindow += n
			sums = append(sums, sums[len(sums)-1]+n)
		}
		for from := range sums {
			for to := from; to < len(sums); to++ {
				if sums[to]-sums[from] > share.Most(s, uint64(to-from)) {
					t.Fatalf("P5.3: of %v in %v ticks: %v", s, to-from, sums[to]-sums[from])
				}
			}
		}
	}
}
