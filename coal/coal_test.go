package coal_test

import (
	"math/rand"
	"testing"

	"linchpin/api"
	"linchpin/coal"
)

func made(t *testing.T, count int, hold uint64) *coal.Gather {
	t.Helper()
	g, code := coal.New(count, hold)
	if g == nil || code != api.OK {
		t.Fatalf("P11.1: New(%v, %v): %v", count, hold, code)
	}
	return g
}

// step is a call, and what is to come of it.
type step struct {
	raise bool
	now   uint64
	fired int
	code  api.Code
	has   int
}

func (s step) try(t *testing.T, g *coal.Gather) {
	t.Helper()
	call := g.Go
	if s.raise {
		call = g.Raise
	}
	if fired, code := call(s.now); fired != s.fired || code != s.code || g.Has() != s.has {
		t.Errorf("P11.1: %v: %v, %v; Has: %v", s, fired, code, g.Has())
	}
}

func due(t *testing.T, g *coal.Gather, want uint64, wantOK bool) {
	t.Helper()
	if at, ok := g.Due(); at != want || ok != wantOK {
		t.Errorf("P11.2: Due: %v, %v, not %v, %v", at, ok, want, wantOK)
	}
}

func TestNew(t *testing.T) {
	for _, c := range []struct {
		count int
		hold  uint64
		ok    bool
	}{
		{1, 0, true}, {1000, 1 << 40, true}, {0, 5, false}, {-1, 5, false}, {1001, 5, false}, {-1 << 63, 0, false},
		{1, 1<<40 + 1, false}, {1, 1<<64 - 1, false},
	} {
		if g, code := coal.New(c.count, c.hold); (g != nil) != c.ok || (code == api.OK) != c.ok || !c.ok && code != api.Arg {
			t.Errorf("P11.1: New(%v, %v): %v", c.count, c.hold, code)
		}
	}
}

func TestExample(t *testing.T) {
	g := made(t, 3, 10)
	due(t, g, 0, false)
	for _, s := range []step{{true, 5, 0, api.OK, 1}, {true, 6, 0, api.OK, 2}, {false, 14, 0, api.OK, 2}, {false, 15, 2, api.OK, 0}, {false, 99, 0, api.OK, 0}} {
		s.try(t, g)
		if g.Has() > 0 {
			due(t, g, 15, true)
		}
	}
	due(t, g, 0, false)
}

func TestCount(t *testing.T) {
	g := made(t, 3, 1<<40)
	for _, s := range []step{{true, 5, 0, api.OK, 1}, {true, 5, 0, api.OK, 2}, {true, 5, 3, api.OK, 0}, {true, 5, 0, api.OK, 1}} {
		s.try(t, g)
	}
	g = made(t, 1, 10)
	for _, s := range []step{{true, 5, 1, api.OK, 0}, {true, 5, 1, api.OK, 0}} {
		s.try(t, g)
	}
}

func TestNoHold(t *testing.T) {
	g := made(t, 1000, 0)
	for _, s := range []step{{true, 5, 1, api.OK, 0}, {true, 5, 1, api.OK, 0}, {false, 6, 0, api.OK, 0}} {
		s.try(t, g)
		due(t, g, 0, false)
	}
}

func TestRaiseWhenDue(t *testing.T) {
	g := made(t, 3, 10)
	for _, s := range []step{{true, 5, 0, api.OK, 1}, {true, 9, 0, api.OK, 2}, {true, 15, 2, api.OK, 1}, {true, 24, 0, api.OK, 2}, {true, 40, 2, api.OK, 1}} {
		s.try(t, g)
	}
	due(t, g, 50, true)
	// The one that comes then may fire at once, too: both are told together.
	g = made(t, 2, 10)
	for _, s := range []step{{true, 5, 0, api.OK, 1}, {true, 15, 1, api.OK, 1}, {true, 20, 2, api.OK, 0}} {
		s.try(t, g)
	}
}

func TestCodes(t *testing.T) {
	g := made(t, 3, 10)
	for _, s := range []step{
		{true, 20, 0, api.OK, 1},
		{true, 19, 0, api.Arg, 1}, {false, 19, 0, api.Arg, 1},
		{true, api.Last, 0, api.Horizon, 1}, {false, api.Last, 0, api.Horizon, 1}, {false, 1<<64 - 1, 0, api.Horizon, 1},
		{false, 25, 0, api.OK, 1},
		{true, 24, 0, api.Arg, 1},
		{true, 25, 0, api.OK, 2},
		{false, 30, 2, api.OK, 0},
	} {
		s.try(t, g)
	}
}

func TestHorizon(t *testing.T) {
	g := made(t, 3, 10)
	g.Raise(api.Last - 11)
	due(t, g, api.Last-1, true)
	step{false, api.Last - 1, 1, api.OK, 0}.try(t, g)
	g.Raise(api.Last - 1)
	due(t, g, 0, false)
	step{false, api.Last - 1, 0, api.OK, 1}.try(t, g)
}

// What follows is told of a list of all raises that weren't fired yet.
func TestEachRaiseIsFiredOnce(t *testing.T) {
	r := rand.New(rand.NewSource(14))
	for range 200 {
		count, hold := 1+r.Intn(5), uint64(r.Intn(8))
		g := made(t, count, hold)
		var waiting []uint64
		for now := uint64(0); now < 100; now++ {
			want := 0
			if len(waiting) > 0 && waiting[0]+hold == now {
				want, waiting = len(waiting), nil
			}
			call := g.Go
			if r.Intn(3) == 0 {
				call = g.Raise
				waiting = append(waiting, now)
				if len(waiting) == count || hold == 0 {
					want, waiting = want+len(waiting), nil
				}
			}
			if fired, code := call(now); fired != want || code != api.OK {
				t.Fatalf("P11.3: at %v: %v, %v, not %v", now, fired, code, want)
			}
			if g.Has() != len(waiting) || g.Has() >= count {
				t.Fatalf("P11.3: it has %v, not %v", g.Has(), len(waiting))
			}
			if at, ok := g.Due(); ok != (len(waiting) > 0) || ok && at != waiting[0]+hold {
				t.Fatalf("P11.2: Due: %v, %v", at, ok)
			}
		}
	}
}
