package life_test

import (
	"cmp"
	"maps"
	"math/rand"
	"slices"
	"testing"

	"linchpin/api"
	"linchpin/life"
)

const (
	top     = 1<<64 - 1
	done    = 1
	aborted = 2
)

func made(t *testing.T, cost uint64) *life.Book {
	t.Helper()
	b, code := life.New(cost)
	if b == nil || code != api.OK {
		t.Fatalf("P19.1: New(%v): %v", cost, code)
	}
	return b
}

func is(t *testing.T, what string, code, want api.Code) {
	t.Helper()
	if code != want {
		t.Errorf("%v: %v, not %v", what, code, want)
	}
}

func fate(id, kind, why int) api.Fate { return api.Fate{ID: id, Kind: kind, Why: why} }

func goTo(t *testing.T, b *life.Book, now uint64, want ...api.Fate) {
	t.Helper()
	if fates, code := b.Go(now); !slices.Equal(fates, want) || code != api.OK {
		t.Errorf("P19.2: Go(%v): %v, %v, not %v", now, fates, code, want)
	}
}

func has(t *testing.T, b *life.Book, id int, want uint64, wantOK bool) {
	t.Helper()
	if dead, ok := b.Has(id); dead != want || ok != wantOK {
		t.Errorf("P19.2: Has(%v): %v, %v, not %v, %v", id, dead, ok, want, wantOK)
	}
}

func TestNew(t *testing.T) {
	for _, c := range []struct {
		cost uint64
		ok   bool
	}{{0, false}, {1, true}, {1000, true}, {1001, false}, {top, false}} {
		if b, code := life.New(c.cost); (b != nil) != c.ok || (code == api.OK) != c.ok || !c.ok && code != api.Arg {
			t.Errorf("P19.1: New(%v): %v", c.cost, code)
		}
	}
}

func TestExample(t *testing.T) {
	b := made(t, 5)
	is(t, "P19.1: Open", b.Open(7, 20), api.OK)
	has(t, b, 7, 20, true)
	goTo(t, b, 14)
	goTo(t, b, 15, fate(7, aborted, 1))
	has(t, b, 7, 0, false)
	goTo(t, b, 15)
	goTo(t, b, 20)
}

func TestOpen(t *testing.T) {
	b := made(t, 5)
	goTo(t, b, 100)
	for _, c := range []struct {
		id   int
		dead uint64
		code api.Code
	}{
		{-1, 200, api.Arg}, {65536, 200, api.Arg}, {-1 << 63, api.Last, api.Arg}, {1 << 62, 200, api.Arg},
		{3, api.Last, api.Horizon}, {3, top, api.Horizon},
		{3, 105, api.Denied}, {3, 100, api.Denied}, {3, 0, api.Denied}, {3, 4, api.Denied},
		{3, 106, api.OK}, {3, 106, api.Exists}, {3, 50, api.Exists}, {3, top, api.Horizon},
		{0, api.Last - 1, api.OK}, {65535, 200, api.OK},
	} {
		is(t, "P19.1: Open", b.Open(c.id, c.dead), c.code)
	}
	if n := b.Count(); n != 3 {
		t.Errorf("P19.2: Count: %v", n)
	}
	for _, id := range []int{-1 << 63, -1, 4, 65536, 1 << 62} {
		has(t, b, id, 0, false)
		is(t, "P19.1: Cancel", b.Cancel(id), api.NotFound)
		is(t, "P19.1: Answer", b.Answer(id, 0, false), api.NotFound)
	}
	goTo(t, b, 101, fate(3, aborted, 1))
}

func TestFull(t *testing.T) {
	b := made(t, 1)
	for id := range 64 {
		is(t, "P19.1: Open", b.Open(id, 50), api.OK)
	}
	is(t, "P19.1: Open of the 65th", b.Open(64, 50), api.Full)
	is(t, "P19.1: Open of the 65th, too late", b.Open(64, 1), api.Full)
	is(t, "P19.1: Open of one that is there", b.Open(63, 50), api.Exists)
	is(t, "P19.1: Cancel", b.Cancel(9), api.OK)
	is(t, "P19.1: Open", b.Open(64, 40), api.OK)
	if n := b.Count(); n != 64 {
		t.Errorf("P19.2: Count: %v", n)
	}
	goTo(t, b, 39, fate(9, aborted, 3), fate(64, aborted, 1))
}

func TestAnswer(t *testing.T) {
	b := made(t, 5)
	for id := range 5 {
		b.Open(id, 50)
	}
	for _, status := range []int{-1, 256, 1 << 62, -1 << 63} {
		is(t, "P19.1: Answer with no status", b.Answer(2, status, false), api.Arg)
		is(t, "P19.1: Answer with no status, bad", b.Answer(2, status, true), api.Arg)
		is(t, "P19.1: Answer of none with no status", b.Answer(9, status, true), api.Arg)
	}
	is(t, "P19.1: Answer", b.Answer(3, 255, false), api.OK)
	is(t, "P19.1: Answer, bad", b.Answer(1, 7, true), api.OK)
	is(t, "P19.1: Cancel", b.Cancel(4), api.OK)
	is(t, "P19.1: Answer", b.Answer(0, 0, false), api.OK)
	is(t, "P19.3: Answer, again", b.Answer(3, 0, false), api.NotFound)
	is(t, "P19.3: Cancel of one that is answered", b.Cancel(1), api.NotFound)
	is(t, "P19.3: Answer of one that is called off", b.Answer(4, 0, true), api.NotFound)
	if n := b.Count(); n != 1 {
		t.Errorf("P19.2: Count: %v", n)
	}
	goTo(t, b, 60, fate(3, done, 255), fate(1, aborted, 2), fate(4, aborted, 3), fate(0, done, 0), fate(2, aborted, 1))
	is(t, "P19.3: Answer, late", b.Answer(2, 0, false), api.NotFound)
	goTo(t, b, 70)
}

func TestAnsweredAheadOfItsTimeIsDone(t *testing.T) {
	b := made(t, 5)
	b.Open(1, 50)
	goTo(t, b, 44)
	b.Answer(1, 9, false)
	goTo(t, b, 100, fate(1, done, 9))
}

func TestOpenAnew(t *testing.T) {
	b := made(t, 5)
	b.Open(1, 50)
	b.Cancel(1)
	is(t, "P19.1: Open anew", b.Open(1, 80), api.OK)
	goTo(t, b, 45, fate(1, aborted, 3))
	has(t, b, 1, 80, true)
	goTo(t, b, 75, fate(1, aborted, 1))
}

func TestOrder(t *testing.T) {
	b := made(t, 2)
	for i, id := range []int{500, 40, 300, 20} {
		b.Open(id, []uint64{30, 30, 20, 30}[i])
	}
	b.Cancel(40)
	b.Open(600, 20)
	b.Open(7, 30)
	b.Open(30, 31)
	goTo(t, b, 28, fate(40, aborted, 3), fate(300, aborted, 1), fate(600, aborted, 1), fate(7, aborted, 1), fate(20, aborted, 1), fate(500, aborted, 1))
}

func TestGo(t *testing.T) {
	b := made(t, 5)
	b.Open(1, 50)
	b.Open(2, 50)
	b.Cancel(2)
	goTo(t, b, 20, fate(2, aborted, 3))
	b.Cancel(1)
	for _, c := range []struct {
		now  uint64
		code api.Code
	}{{19, api.Arg}, {0, api.Arg}, {api.Last, api.Horizon}, {top, api.Horizon}} {
		if fates, code := b.Go(c.now); len(fates) != 0 || code != c.code {
			t.Errorf("P19.2: Go(%v): %v, %v", c.now, fates, code)
		}
	}
	goTo(t, b, 20, fate(1, aborted, 3))
	is(t, "P19.1: Open", b.Open(3, 26), api.OK)
	goTo(t, b, api.Last-1, fate(3, aborted, 1))
	is(t, "P19.1: Open at the horizon", b.Open(3, api.Last-1), api.Denied)
}

func TestAnswersAreNew(t *testing.T) {
	b := made(t, 5)
	b.Open(1, 50)
	b.Open(2, 50)
	b.Cancel(1)
	first, _ := b.Go(10)
	b.Cancel(2)
	goTo(t, b, 11, fate(2, aborted, 3))
	if first[0] != fate(1, aborted, 3) {
		t.Errorf("P19.2: what was told is written over: %v", first)
	}
}

// Whatever is answered, each request that was opened has just one outcome, at its abort time at the latest.
func TestOneOutcome(t *testing.T) {
	r := rand.New(rand.NewSource(27))
	for range 60 {
		cost := 1 + uint64(r.Intn(6))
		b := made(t, cost)
		open, now := map[int]uint64{}, uint64(0)
		var want []api.Fate
		for range 400 {
			id := r.Intn(90)
			dead, there := open[id]
			code := api.NotFound
			if there {
				code = api.OK
			}
			switch r.Intn(6) {
			case 0, 1:
				dead = now + uint64(r.Intn(40))
				code = api.OK
				switch {
				case there:
					code = api.Exists
				case len(open) == 64:
					code = api.Full
				case dead <= now+cost:
					code = api.Denied
				}
				is(t, "P19.1: Open", b.Open(id, dead), code)
				if code == api.OK {
					open[id] = dead
				}
			case 2:
				status, bad := r.Intn(256), r.Intn(2) == 0
				is(t, "P19.1: Answer", b.Answer(id, status, bad), code)
				if there && bad {
					want = append(want, fate(id, aborted, 2))
				} else if there {
					want = append(want, fate(id, done, status))
				}
				delete(open, id)
			case 3:
				is(t, "P19.1: Cancel", b.Cancel(id), code)
				if there {
					want = append(want, fate(id, aborted, 3))
				}
				delete(open, id)
			case 4, 5:
				now += uint64(r.Intn(6))
				late := slices.DeleteFunc(slices.Collect(maps.Keys(open)), func(id int) bool { return open[id]-cost > now })
				slices.SortFunc(late, func(x, y int) int { return cmp.Or(cmp.Compare(open[x], open[y]), x-y) })
				for _, id := range late {
					want = append(want, fate(id, aborted, 1))
					delete(open, id)
				}
				goTo(t, b, now, want...)
				want = nil
			}
			dead, there = open[id]
			has(t, b, id, dead, there)
			if b.Count() != len(open) {
				t.Errorf("P19.2: Count: %v, not %v", b.Count(), len(open))
			}
			if t.Failed() {
				t.FailNow()
			}
		}
	}
}
