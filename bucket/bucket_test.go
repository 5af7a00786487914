package bucket_test

import (
	"math/rand"
	"testing"

	"linchpin/api"
	"linchpin/bucket"
)

const top = 1<<64 - 1

func made(t *testing.T, depth int, every uint64) *bucket.Bucket {
	t.Helper()
	b, code := bucket.New(depth, every)
	if b == nil || code != api.OK {
		t.Fatalf("P12.1: New(%v, %v): %v", depth, every, code)
	}
	return b
}

func take(t *testing.T, b *bucket.Bucket, now uint64, want bool, wantCode api.Code) {
	t.Helper()
	if ok, code := b.Take(now); ok != want || code != wantCode {
		t.Errorf("P12.1: Take(%v): %v, %v, not %v, %v", now, ok, code, want, wantCode)
	}
}

func has(t *testing.T, b *bucket.Bucket, now uint64, want int, wantCode api.Code) {
	t.Helper()
	if n, code := b.Has(now); n != want || code != wantCode {
		t.Errorf("P12.1: Has(%v): %v, %v, not %v, %v", now, n, code, want, wantCode)
	}
}

func wait(t *testing.T, b *bucket.Bucket, now, want uint64, wantCode api.Code) {
	t.Helper()
	if when, code := b.Wait(now); when != want || code != wantCode {
		t.Errorf("P12.1: Wait(%v): %v, %v, not %v, %v", now, when, code, want, wantCode)
	}
}

func TestNewAndMost(t *testing.T) {
	for _, c := range []struct {
		depth int
		every uint64
		ok    bool
	}{
		{1, 1, true}, {1000, 1 << 40, true}, {0, 1, false}, {-1, 1, false}, {1001, 1, false}, {-1 << 63, 1, false},
		{1, 0, false}, {1, 1<<40 + 1, false}, {1, top, false},
	} {
		if b, code := bucket.New(c.depth, c.every); (b != nil) != c.ok || (code == api.OK) != c.ok || !c.ok && code != api.Arg {
			t.Errorf("P12.1: New(%v, %v): %v", c.depth, c.every, code)
		}
		if most := bucket.Most(c.depth, c.every, 5); (most > 0) != c.ok {
			t.Errorf("P12.2: Most(%v, %v, 5): %v", c.depth, c.every, most)
		}
	}
	for _, c := range []struct {
		depth             int
		every, span, most uint64
	}{
		{2, 10, 0, 3}, {2, 10, 9, 3}, {2, 10, 10, 4}, {2, 10, 19, 4}, {2, 10, 20, 5}, {1000, 1, 1 << 40, 1001 + 1<<40},
		{2, 10, 1<<40 + 1, 0}, {2, 10, top, 0},
	} {
		if most := bucket.Most(c.depth, c.every, c.span); most != c.most {
			t.Errorf("P12.2: Most(%v, %v, %v): %v", c.depth, c.every, c.span, most)
		}
	}
}

func TestExample(t *testing.T) {
	b := made(t, 2, 10)
	take(t, b, 1, true, api.OK)
	take(t, b, 1, true, api.OK)
	take(t, b, 1, false, api.OK)
	take(t, b, 9, false, api.OK)
	wait(t, b, 9, 10, api.OK)
	take(t, b, 10, true, api.OK)
	take(t, b, 10, false, api.OK)
	wait(t, b, 10, 20, api.OK)
}

func TestTokensCome(t *testing.T) {
	b := made(t, 3, 10)
	has(t, b, 0, 3, api.OK)
	has(t, b, 25, 3, api.OK)
	take(t, b, 25, true, api.OK)
	take(t, b, 25, true, api.OK)
	has(t, b, 29, 1, api.OK)
	wait(t, b, 29, 29, api.OK)
	has(t, b, 30, 2, api.OK)
	has(t, b, 39, 2, api.OK)
	has(t, b, 1<<60, 3, api.OK)
	b = made(t, 1000, 1)
	for range 1000 {
		take(t, b, 0, true, api.OK)
	}
	has(t, b, 999, 999, api.OK)
	has(t, b, api.Last-1, 1000, api.OK)
}

func TestCodes(t *testing.T) {
	b := made(t, 2, 10)
	for i, call := range []func(now uint64) api.Code{
		func(now uint64) api.Code { ok, code := b.Take(now); return zeroBeside(t, code, ok == false) },
		func(now uint64) api.Code { n, code := b.Has(now); return zeroBeside(t, code, n == 0) },
		func(now uint64) api.Code { n, code := b.Wait(now); return zeroBeside(t, code, n == 0) },
	} {
		now := 20 + uint64(i)
		for _, c := range []struct {
			now  uint64
			code api.Code
		}{{now, api.OK}, {now - 1, api.Arg}, {0, api.Arg}, {api.Last, api.Horizon}, {top, api.Horizon}, {now, api.OK}} {
			if code := call(c.now); code != c.code {
				t.Errorf("P12.1: call %v at %v: %v, not %v", i, c.now, code, c.code)
			}
		}
	}
}

func zeroBeside(t *testing.T, code api.Code, zero bool) api.Code {
	t.Helper()
	if code != api.OK && !zero {
		t.Errorf("P12.1: something is told beside %v", code)
	}
	return code
}

func TestWaitBeyondTheHorizon(t *testing.T) {
	b := made(t, 1, 1<<40)
	take(t, b, api.Last-9, true, api.OK)
	wait(t, b, api.Last-1, 0, api.Horizon)
	has(t, b, api.Last-9, 0, api.OK)
}

// Tokens are counted here tick by tick; in no span are more taken than Most says, and who waits has one.
func TestAgainstModel(t *testing.T) {
	r := rand.New(rand.NewSource(15))
	for range 60 {
		depth, every := 1+r.Intn(4), 1+uint64(r.Intn(7))
		b := made(t, depth, every)
		tokens, sums := depth, []uint64{0}
		for now := uint64(0); now < 100; now++ {
			if now > 0 && now%every == 0 && tokens < depth {
				tokens++
			}
			taken := uint64(0)
			for range r.Intn(3) {
				take(t, b, now, tokens > 0, api.OK)
				if tokens > 0 {
					tokens--
					taken++
				}
			}
			if r.Intn(2) == 0 {
				has(t, b, now, tokens, api.OK)
				when := now
				if tokens == 0 {
					when = now/every*every + every
				}
				wait(t, b, now, when, api.OK)
			}
			sums = append(sums, sums[now]+taken)
		}
		for from := range sums {
			for to := from; to < len(sums); to++ {
				if n := sums[to] - sums[from]; n > bucket.Most(depth, every, uint64(to-from)) {
					t.Fatalf("P12.3: of %v, %v in %v ticks: %v", depth, every, to-from, n)
				}
			}
		}
	}
}

func TestWhoWaitsHasOne(t *testing.T) {
	r := rand.New(rand.NewSource(16))
	b := made(t, 3, 7)
	now := uint64(0)
	for range 500 {
		when, code := b.Wait(now)
		if code != api.OK || when < now {
			t.Fatalf("P12.3: Wait(%v): %v, %v", now, when, code)
		}
		if when > now {
			take(t, b, when-1, false, api.OK)
		}
		take(t, b, when, true, api.OK)
		now = when + uint64(r.Intn(4))
	}
}
