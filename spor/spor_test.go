package spor_test

import (
	"math/rand"
	"testing"

	"linchpin/api"
	"linchpin/spor"
)

const top = 1<<64 - 1

func made(t *testing.T, budget int, period uint64) *spor.Budget {
	t.Helper()
	b, code := spor.New(api.Server{Budget: budget, Period: period})
	if b == nil || code != api.OK {
		t.Fatalf("P14.1: New(%v, %v): %v", budget, period, code)
	}
	return b
}

func use(t *testing.T, b *spor.Budget, now uint64, want bool, wantCode api.Code) {
	t.Helper()
	if ok, code := b.Use(now); ok != want || code != wantCode {
		t.Errorf("P14.1: Use(%v): %v, %v, not %v, %v", now, ok, code, want, wantCode)
	}
}

func left(t *testing.T, b *spor.Budget, now uint64, want int, wantCode api.Code) {
	t.Helper()
	if n, code := b.Left(now); n != want || code != wantCode {
		t.Errorf("P14.1: Left(%v): %v, %v, not %v, %v", now, n, code, want, wantCode)
	}
}

func next(t *testing.T, b *spor.Budget, now, want uint64, wantCode api.Code) {
	t.Helper()
	if when, code := b.Next(now); when != want || code != wantCode {
		t.Errorf("P14.1: Next(%v): %v, %v, not %v, %v", now, when, code, want, wantCode)
	}
}

func TestMay(t *testing.T) {
	for _, c := range []struct {
		budget int
		period uint64
		ok     bool
	}{
		{1, 1, true}, {200, 200, true}, {200, 1 << 40, true}, {2, 10, true},
		{0, 10, false}, {-1, 10, false}, {-1 << 63, top, false}, {201, 1000, false}, {11, 10, false}, {1, 0, false}, {1, 1<<40 + 1, false}, {1, top, false},
	} {
		s := api.Server{Budget: c.budget, Period: c.period}
		if ok := spor.May(s); ok != c.ok {
			t.Errorf("P14.1: May(%v): %v", s, ok)
		}
		if b, code := spor.New(s); (b != nil) != c.ok || (code == api.OK) != c.ok || !c.ok && code != api.Arg {
			t.Errorf("P14.1: New(%v): %v", s, code)
		}
		if most := spor.Most(s, 5); (most > 0) != c.ok {
			t.Errorf("P14.2: Most(%v, 5): %v", s, most)
		}
	}
}

func TestExample(t *testing.T) {
	b := made(t, 2, 10)
	use(t, b, 0, true, api.OK)
	use(t, b, 3, true, api.OK)
	next(t, b, 3, 10, api.OK)
	use(t, b, 9, false, api.OK)
	use(t, b, 10, true, api.OK)
	next(t, b, 10, 13, api.OK)
}

func TestUseAndLeft(t *testing.T) {
	b := made(t, 3, 10)
	left(t, b, 0, 3, api.OK)
	next(t, b, 4, 4, api.OK)
	use(t, b, 4, true, api.OK)
	use(t, b, 4, true, api.OK)
	left(t, b, 5, 1, api.OK)
	next(t, b, 5, 5, api.OK)
	use(t, b, 5, true, api.OK)
	left(t, b, 13, 0, api.OK)
	next(t, b, 13, 14, api.OK)
	left(t, b, 14, 2, api.OK)
	left(t, b, 15, 3, api.OK)
	next(t, b, 99, 99, api.OK)
}

func TestCodes(t *testing.T) {
	b := made(t, 2, 10)
	left(t, b, 20, 2, api.OK)
	left(t, b, 19, 0, api.Arg)
	use(t, b, 21, true, api.OK)
	use(t, b, 20, false, api.Arg)
	next(t, b, 22, 22, api.OK)
	next(t, b, 21, 0, api.Arg)
	for _, now := range []uint64{api.Last, top} {
		left(t, b, now, 0, api.Horizon)
		use(t, b, now, false, api.Horizon)
		next(t, b, now, 0, api.Horizon)
	}
	left(t, b, 22, 1, api.OK)
	left(t, b, api.Last-1, 2, api.OK)
}

func TestHorizon(t *testing.T) {
	b := made(t, 1, 10)
	use(t, b, api.Last-11, true, api.OK)
	next(t, b, api.Last-11, api.Last-1, api.OK)
	use(t, b, api.Last-1, true, api.OK)
	next(t, b, api.Last-1, 0, api.Horizon)
	use(t, b, api.Last-1, false, api.OK)
	b = made(t, 1, 10)
	use(t, b, api.Last-10, true, api.OK)
	next(t, b, api.Last-2, 0, api.Horizon)
	left(t, b, api.Last-9, 0, api.OK)
}

func TestMost(t *testing.T) {
	for _, c := range []struct {
		budget             int
		period, span, most uint64
	}{
		{2, 10, 0, 0}, {2, 10, 1, 1}, {2, 10, 2, 2}, {2, 10, 10, 2}, {2, 10, 11, 4}, {2, 10, 20, 4}, {2, 10, 21, 6}, {10, 10, 15, 15},
		{200, 200, 1 << 40, 1 << 40}, {1, 1 << 40, 1 << 40, 1}, {2, 10, 1<<40 + 1, 0}, {2, 10, top, 0},
	} {
		if most := spor.Most(api.Server{Budget: c.budget, Period: c.period}, c.span); most != c.most {
			t.Errorf("P14.2: Most(%v, %v, %v): %v", c.budget, c.period, c.span, most)
		}
	}
}

// All uses are kept here, and counted anew each time.
func TestAgainstModel(t *testing.T) {
	r := rand.New(rand.NewSource(19))
	for range 60 {
		budget := 1 + r.Intn(5)
		period := uint64(budget + r.Intn(8))
		b := made(t, budget, period)
		var uses []uint64
		for now := uint64(0); now < 200; now += uint64(r.Intn(3)) {
			out, first := 0, now
			for _, at := range uses {
				if at+period > now {
					if out == 0 {
						first = at + period
					}
					out++
				}
			}
			if out < budget {
				first = now
			}
			switch r.Intn(3) {
			case 0:
				left(t, b, now, budget-out, api.OK)
			case 1:
				use(t, b, now, out < budget, api.OK)
				if out < budget {
					uses = append(uses, now)
				}
			case 2:
				next(t, b, now, first, api.OK)
			}
		}
	}
}

// Whoever uses a unit a tick whenever one is there never has more than Most, nor more than the budget in a period.
func TestNeverMoreThanMost(t *testing.T) {
	r := rand.New(rand.NewSource(20))
	for range 60 {
		budget := 1 + r.Intn(4)
		period := uint64(budget + r.Intn(9))
		b := made(t, budget, period)
		sums, idle := []uint64{0}, r.Intn(3)
		for now := range uint64(90) {
			n := uint64(0)
			if r.Intn(4) >= idle {
				if ok, _ := b.Use(now); ok {
					n = 1
				}
			}
			sums = append(sums, sums[now]+n)
		}
		for from := range sums {
			for to := from; to < len(sums); to++ {
				n, span := sums[to]-sums[from], uint64(to-from)
				if n > spor.Most(api.Server{Budget: budget, Period: period}, span) || span == period && n > uint64(budget) {
					t.Fatalf("P14.3: of %v in %v, %v in %v ticks", budget, period, n, span)
				}
			}
		}
	}
}
