package lock_test

import (
	"math/rand"
	"slices"
	"testing"

	"linchpin/api"
	"linchpin/lock"
)

// made tells a keeper of locks with these ceilings.
func made(t *testing.T, ceils ...int) *lock.Keeper {
	t.Helper()
	var list []api.Lock
	for _, c := range ceils {
		list = append(list, api.Lock{Ceil: c})
	}
	k, code := lock.New(list)
	if k == nil || code != api.OK {
		t.Fatalf("P23.1: New(%v): %v", ceils, code)
	}
	return k
}

func is(t *testing.T, what string, code, want api.Code) {
	t.Helper()
	if code != want {
		t.Errorf("%v: %v, not %v", what, code, want)
	}
}

func prio(t *testing.T, k *lock.Keeper, id, want int, wantCode api.Code) {
	t.Helper()
	if p, code := k.Prio(id); p != want || code != wantCode {
		t.Errorf("P23.2: Prio(%v): %v, %v, not %v, %v", id, p, code, want, wantCode)
	}
}

func held(t *testing.T, k *lock.Keeper, id int, want ...int) {
	t.Helper()
	if l := k.Held(id); !slices.Equal(l, want) {
		t.Errorf("P23.2: Held(%v): %v, not %v", id, l, want)
	}
}

func holder(t *testing.T, k *lock.Keeper, lock, want int, wantOK bool) {
	t.Helper()
	if id, ok := k.Holder(lock); id != want || ok != wantOK {
		t.Errorf("P23.2: Holder(%v): %v, %v, not %v, %v", lock, id, ok, want, wantOK)
	}
}

func TestNew(t *testing.T) {
	for _, c := range []struct {
		ceil int
		ok   bool
	}{{0, true}, {100, true}, {-1, false}, {101, false}, {1 << 62, false}, {-1 << 63, false}} {
		l := api.Lock{Ceil: c.ceil}
		if ok := lock.May(l); ok != c.ok {
			t.Errorf("P23.1: May(%v): %v", l, ok)
		}
		if k, code := lock.New([]api.Lock{{}, l}); (k != nil) != c.ok || (code == api.OK) != c.ok || !c.ok && code != api.Arg {
			t.Errorf("P23.1: New with %v: %v", l, code)
		}
	}
	for n := range 19 {
		ok := n >= 1 && n <= 16
		if k, code := lock.New(make([]api.Lock, n)); (k != nil) != ok || (code == api.OK) != ok || !ok && code != api.Arg {
			t.Errorf("P23.1: New of %v: %v", n, code)
		}
	}
}

func TestExample(t *testing.T) {
	k := made(t, 2)
	is(t, "P23.1: Know", k.Know(4, 9), api.OK)
	prio(t, k, 4, 9, api.OK)
	is(t, "P23.1: Take", k.Take(4, 0), api.OK)
	prio(t, k, 4, 2, api.OK)
	is(t, "P23.1: Back", k.Back(4, 0), api.OK)
	prio(t, k, 4, 9, api.OK)
}

func TestKnow(t *testing.T) {
	k := made(t, 2)
	for _, c := range []struct{ id, prio int }{{-1, 5}, {64, 5}, {1 << 62, 5}, {-1 << 63, 5}, {3, -1}, {3, 101}, {3, 1 << 62}, {3, -1 << 63}} {
		is(t, "P23.1: Know", k.Know(c.id, c.prio), api.Arg)
		prio(t, k, c.id, 0, api.NotFound)
	}
	is(t, "P23.1: Know", k.Know(0, 0), api.OK)
	is(t, "P23.1: Know", k.Know(63, 100), api.OK)
	is(t, "P23.1: Know anew", k.Know(63, 7), api.OK)
	prio(t, k, 63, 7, api.OK)
	k.Take(63, 0)
	is(t, "P23.1: Know of one that holds a lock", k.Know(63, 8), api.Busy)
	is(t, "P23.1: Know of one that holds a lock, with no urgency", k.Know(63, 101), api.Arg)
	prio(t, k, 63, 2, api.OK)
	k.Back(63, 0)
	prio(t, k, 63, 7, api.OK)
	is(t, "P23.1: Know anew", k.Know(63, 8), api.OK)
	prio(t, k, 63, 8, api.OK)
}

func TestTake(t *testing.T) {
	k := made(t, 2, 5)
	k.Know(1, 5)
	k.Know(2, 2)
	k.Know(3, 1)
	for _, c := range []struct {
		id, lock int
		code     api.Code
	}{
		{1, -1, api.Arg}, {1, 2, api.Arg}, {9, 2, api.Arg}, {1, 1 << 62, api.Arg}, {1, -1 << 63, api.Arg},
		{9, 0, api.NotFound}, {-1, 0, api.NotFound}, {64, 1, api.NotFound},
		{2, 1, api.Denied}, {3, 0, api.Denied},
		{1, 1, api.OK}, {1, 1, api.Exists},
		{2, 1, api.Denied}, {3, 1, api.Denied},
		{2, 0, api.OK}, {1, 0, api.Busy}, {3, 0, api.Denied},
	} {
		if code := k.Take(c.id, c.lock); code != c.code {
			t.Errorf("P23.1: Take(%v, %v): %v, not %v", c.id, c.lock, code, c.code)
		}
	}
	// Its own urgency counts, not the one that it has by its locks.
	k.Back(2, 0)
	is(t, "P23.1: Take of a second one", k.Take(1, 0), api.OK)
	held(t, k, 1, 1, 0)
	holder(t, k, 0, 1, true)
	holder(t, k, 1, 1, true)
	prio(t, k, 1, 2, api.OK)
}

func TestBack(t *testing.T) {
	k := made(t, 2, 5, 4)
	k.Know(1, 9)
	k.Know(2, 9)
	k.Take(1, 1)
	k.Take(1, 0)
	prio(t, k, 1, 2, api.OK)
	for _, c := range []struct {
		id, lock int
		code     api.Code
	}{
		{1, -1, api.Arg}, {1, 3, api.Arg}, {9, 3, api.Arg}, {9, 0, api.NotFound},
		{2, 0, api.Owner}, {1, 2, api.Owner}, {1, 1, api.State}, {1, 0, api.OK}, {1, 0, api.Owner},
	} {
		if code := k.Back(c.id, c.lock); code != c.code {
			t.Errorf("P23.1: Back(%v, %v): %v, not %v", c.id, c.lock, code, c.code)
		}
	}
	prio(t, k, 1, 5, api.OK)
	held(t, k, 1, 1)
	holder(t, k, 0, 0, false)
	is(t, "P23.1: Back", k.Back(1, 1), api.OK)
	prio(t, k, 1, 9, api.OK)
	held(t, k, 1)
}

func TestGone(t *testing.T) {
	k := made(t, 2, 5, 4)
	k.Know(1, 9)
	for _, l := range []int{1, 2, 0} {
		k.Take(1, l)
	}
	if l := k.Gone(1); !slices.Equal(l, []int{0, 2, 1}) {
		t.Errorf("P23.2: Gone: %v", l)
	}
	prio(t, k, 1, 0, api.NotFound)
	held(t, k, 1)
	for l := range 3 {
		holder(t, k, l, 0, false)
	}
	for _, id := range []int{1, 2, -1, 64, 1 << 62} {
		if l := k.Gone(id); len(l) != 0 {
			t.Errorf("P23.2: Gone(%v): %v", id, l)
		}
	}
	k.Know(1, 7)
	held(t, k, 1)
	is(t, "P23.1: Take of one that is known again", k.Take(1, 2), api.OK)
	for _, l := range []int{-1, 3, 1 << 62, -1 << 63} {
		holder(t, k, l, 0, false)
	}
}

func TestAnswersAreNew(t *testing.T) {
	list := []api.Lock{{Ceil: 2}, {Ceil: 3}}
	k, _ := lock.New(list)
	list[0].Ceil = 50
	k.Know(1, 9)
	k.Take(1, 0)
	k.Take(1, 1)
	k.Held(1)[0] = 7
	held(t, k, 1, 0, 1)
	prio(t, k, 1, 2, api.OK)
}

// model is a keeper as plainly as can be.
type model struct {
	ceils []int
	own   map[int]int
	held  map[int][]int
}

func (m *model) take(id, l int) api.Code {
	own, known := m.own[id]
	switch {
	case !known:
		return api.NotFound
	case slices.Contains(m.held[id], l):
		return api.Exists
	case own < m.ceils[l]:
		return api.Denied
	}
	for _, locks := range m.held {
		if slices.Contains(locks, l) {
			return api.Busy
		}
	}
	m.held[id] = append(m.held[id], l)
	return api.OK
}

func (m *model) back(id, l int) api.Code {
	_, known := m.own[id]
	at := slices.Index(m.held[id], l)
	switch {
	case !known:
		return api.NotFound
	case at < 0:
		return api.Owner
	case at < len(m.held[id])-1:
		return api.State
	}
	m.held[id] = m.held[id][:at]
	return api.OK
}

func TestAgainstModel(t *testing.T) {
	r := rand.New(rand.NewSource(34))
	for range 60 {
		m := &model{own: map[int]int{}, held: map[int][]int{}}
		for range 1 + r.Intn(5) {
			m.ceils = append(m.ceils, r.Intn(6))
		}
		k := made(t, m.ceils...)
		for range 400 {
			id, l := r.Intn(6), r.Intn(len(m.ceils))
			switch r.Intn(10) {
			case 0, 1:
				want, p := api.OK, r.Intn(10)
				if len(m.held[id]) > 0 {
					want = api.Busy
				} else {
					m.own[id] = p
				}
				is(t, "P23.1: Know", k.Know(id, p), want)
			case 2, 3, 4, 5:
				is(t, "P23.1: Take", k.Take(id, l), m.take(id, l))
			case 6, 7, 8:
				is(t, "P23.1: Back", k.Back(id, l), m.back(id, l))
			case 9:
				want := slices.Clone(m.held[id])
				slices.Reverse(want)
				if l := k.Gone(id); !slices.Equal(l, want) {
					t.Errorf("P23.2: Gone(%v): %v, not %v", id, l, want)
				}
				delete(m.held, id)
				delete(m.own, id)
			}
			holders := make([]int, len(m.ceils))
			for id := range 6 {
				held(t, k, id, m.held[id]...)
				own, known := m.own[id]
				if !known {
					prio(t, k, id, 0, api.NotFound)
					continue
				}
				want := own
				for _, l := range m.held[id] {
					want = min(want, m.ceils[l])
					holder(t, k, l, id, true)
					holders[l]++
				}
				prio(t, k, id, want, api.OK)
				if want > own || len(m.held[id]) == 0 && want != own {
					t.Errorf("P23.3: the urgency of %v is %v, its own %v", id, want, own)
				}
			}
			for l, n := range holders {
				if n > 1 {
					t.Errorf("P23.3: lock %v has %v holders", l, n)
				}
				if n == 0 {
					holder(t, k, l, 0, false)
				}
			}
			if t.Failed() {
				t.FailNow()
			}
		}
	}
}

// If only the most urgent one acts, of alike ones who holds a lock, nobody is refused by Busy.
func TestNobodyIsRefusedByBusy(t *testing.T) {
	r := rand.New(rand.NewSource(35))
	taken := 0
	for range 300 {
		ceils := make([]int, 1+r.Intn(5))
		for i := range ceils {
			ceils[i] = r.Intn(10)
		}
		k := made(t, ceils...)
		known := map[int]bool{}
		for range 100 {
			// Members come and wait at any time, but only the most urgent one takes locks, and gives them back.
			if id := r.Intn(6); r.Intn(4) == 0 && k.Know(id, r.Intn(12)) == api.OK {
				known[id] = true
			}
			id := mostUrgent(k, known)
			if id < 0 {
				continue
			}
			l := k.Held(id)
			switch r.Intn(4) {
			case 0, 1:
				code := k.Take(id, r.Intn(len(ceils)))
				if code == api.Busy {
					t.Fatalf("P23.3: %v is refused by Busy", id)
				}
				if code == api.OK {
					taken++
				}
			case 2:
				if len(l) > 0 {
					is(t, "P23.1: Back", k.Back(id, l[len(l)-1]), api.OK)
				}
			case 3:
				if len(l) == 0 {
					k.Gone(id)
					delete(known, id)
				}
			}
		}
	}
	if taken < 1000 {
		t.Errorf("only %v locks were taken", taken)
	}
}

func mostUrgent(k *lock.Keeper, known map[int]bool) int {
	best, bestPrio := -1, 0
	for id := range 64 {
		if !known[id] {
			continue
		}
		p, _ := k.Prio(id)
		if best < 0 || p < bestPrio || p == bestPrio && len(k.Held(best)) == 0 && len(k.Held(id)) > 0 {
			best, bestPrio = id, p
		}
	}
	return best
}
