package wheel_test

import (
	"cmp"
	"math/rand"
	"slices"
	"testing"

	"linchpin/api"
	"linchpin/wheel"
)

func at(t *testing.T, w *wheel.Wheel, until uint64, want ...int) {
	t.Helper()
	off, code := w.Go(until)
	if !slices.Equal(off, want) || code != api.OK || w.Now() != until {
		t.Errorf("P4.2: Go(%v): %v, %v, not %v; Now: %v", until, off, code, want, w.Now())
	}
}

func TestExample(t *testing.T) {
	w := wheel.New()
	w.Set(1, 70)
	w.Set(2, 5)
	at(t, w, 5, 2)
	at(t, w, 100, 1)
	if w.Len() != 0 {
		t.Errorf("P4.2: Len: %v", w.Len())
	}
}

func TestSet(t *testing.T) {
	w := wheel.New()
	if w.Now() != 0 || w.Len() != 0 {
		t.Errorf("P4.2: a new wheel: %v, %v", w.Now(), w.Len())
	}
	at(t, w, 20)
	for _, c := range []struct {
		id   int
		at   uint64
		code api.Code
	}{
		{-1, 30, api.Arg}, {1000, 30, api.Arg}, {-1 << 63, 30, api.Arg}, {1<<63 - 1, 30, api.Arg},
		{5, 20, api.Arg}, {5, 19, api.Arg}, {5, 0, api.Arg},
		{5, api.Last, api.Horizon}, {5, 1<<64 - 1, api.Horizon}, {1000, api.Last, api.Arg},
		{0, 21, api.OK}, {999, api.Last - 1, api.OK},
	} {
		if code := w.Set(c.id, c.at); code != c.code {
			t.Errorf("P4.1: Set(%v, %v): %v", c.id, c.at, code)
		}
	}
	if w.Len() != 2 {
		t.Errorf("P4.2: Len: %v", w.Len())
	}
	at(t, w, 21, 0)
	at(t, w, api.Last-2)
	at(t, w, api.Last-1, 999)
}

func TestSetAnewAndCancel(t *testing.T) {
	w := wheel.New()
	for _, id := range []int{-1, 0, 4, 1000} {
		if code := w.Cancel(id); code != api.NotFound {
			t.Errorf("P4.1: Cancel(%v): %v", id, code)
		}
		if when, code := w.At(id); when != 0 || code != api.NotFound {
			t.Errorf("P4.1: At(%v): %v, %v", id, when, code)
		}
	}
	w.Set(4, 10)
	w.Set(4, 9000)
	w.Set(6, 10)
	if when, code := w.At(4); when != 9000 || code != api.OK || w.Len() != 2 {
		t.Errorf("P4.1: At of one set anew: %v, %v", when, code)
	}
	if code := w.Cancel(6); code != api.OK {
		t.Errorf("P4.1: Cancel: %v", code)
	}
	if code := w.Cancel(6); code != api.NotFound {
		t.Errorf("P4.1: Cancel, again: %v", code)
	}
	at(t, w, 8999)
	w.Set(4, 9001)
	at(t, w, 9000)
	at(t, w, 9001, 4)
	if _, code := w.At(4); code != api.NotFound {
		t.Errorf("P4.2: one that went off is still there: %v", code)
	}
	at(t, w, 20000)
}

func TestGo(t *testing.T) {
	w := wheel.New()
	w.Set(1, 50)
	at(t, w, 40)
	for _, c := range []struct {
		until uint64
		code  api.Code
	}{{39, api.Arg}, {0, api.Arg}, {api.Last, api.Horizon}, {1<<64 - 1, api.Horizon}} {
		if off, code := w.Go(c.until); len(off) != 0 || code != c.code || w.Now() != 40 || w.Len() != 1 {
			t.Errorf("P4.2: Go(%v): %v, %v", c.until, off, code)
		}
	}
	at(t, w, 40)
	at(t, w, 50, 1)
}

func TestOrder(t *testing.T) {
	w := wheel.New()
	for id, when := range []uint64{70, 5, 4096, 5, 64, 63, 70, 1 << 40, 1<<40 + 1, 5} {
		w.Set(id, when)
	}
	at(t, w, 1<<41, 1, 3, 9, 5, 4, 0, 6, 2, 7, 8)
}

type timer struct {
	id int
	at uint64
}

// due tells, from a list as plain as can be, who goes off.
func due(list map[int]uint64, until uint64) []int {
	var l []timer
	for id, at := range list {
		if at <= until {
			l = append(l, timer{id, at})
		}
	}
	slices.SortFunc(l, func(a, b timer) int { return cmp.Or(cmp.Compare(a.at, b.at), cmp.Compare(a.id, b.id)) })
	var ids []int
	for _, c := range l {
		ids = append(ids, c.id)
	}
	return ids
}

func TestAgainstModel(t *testing.T) {
	r := rand.New(rand.NewSource(5))
	for round := range 60 {
		w := wheel.New()
		list := map[int]uint64{}
		now := uint64(0)
		reach := uint(2 + round)
		for step := range 300 {
			id := r.Intn(30)
			switch r.Intn(4) {
			case 0, 1:
				when := now + 1 + r.Uint64()%(1<<min(reach, 61))
				if when >= api.Last {
					continue
				}
				if code := w.Set(id, when); code != api.OK {
					t.Fatalf("P4.1: Set(%v, %v): %v", id, when, code)
				}
				list[id] = when
			case 2:
				_, has := list[id]
				if code := w.Cancel(id); (code == api.OK) != has {
					t.Fatalf("P4.1: Cancel(%v): %v", id, code)
				}
				delete(list, id)
			case 3:
				until := min(now+r.Uint64()%(1<<min(reach, 61)), api.Last-1)
				want := due(list, until)
				off, code := w.Go(until)
				if !slices.Equal(off, want) || code != api.OK {
					t.Fatalf("P4.2: round %v, step %v: Go(%v): %v, %v, not %v", round, step, until, off, code, want)
				}
				for _, id := range off {
					delete(list, id)
				}
				now = until
			}
			when, code := w.At(id)
			if wanted, has := list[id]; when != wanted || (code == api.OK) != has || w.Len() != len(list) || w.Now() != now {
				t.Fatalf("P4.1: At(%v): %v, %v; Len: %v; Now: %v", id, when, code, w.Len(), w.Now())
			}
		}
	}
}

func TestAtOnceOrStepByStep(t *testing.T) {
	r := rand.New(rand.NewSource(6))
	once, steps := wheel.New(), wheel.New()
	for id := range 1000 {
		when := 1 + uint64(r.Intn(20000))
		once.Set(id, when)
		steps.Set(id, when)
	}
	var all []int
	for now := uint64(1); now <= 20000; now++ {
		off, _ := steps.Go(now)
		all = append(all, off...)
	}
	if off, _ := once.Go(20000); !slices.Equal(off, all) || len(off) != 1000 {
		t.Errorf("P4.3: at once %v, step by step %v", len(off), len(all))
	}
}
