package rta_test

import (
	"math/rand"
	"slices"
	"testing"

	"linchpin/api"
	"linchpin/rta"
)

const top = 1<<64 - 1

func work(prio int, cost, period, dead uint64) api.Work {
	return api.Work{Prio: prio, Cost: cost, Period: period, Dead: dead}
}

func load(budget int, period uint64) api.Server {
	return api.Server{Budget: budget, Period: period}
}

func answers(t *testing.T, tasks []api.Work, loads []api.Server, i int, want uint64, wantOK bool) {
	t.Helper()
	if r, ok := rta.Time(tasks, loads, i); r != want || ok != wantOK {
		t.Errorf("P16.2: Time(%v, %v, %v): %v, %v, not %v, %v", tasks, loads, i, r, ok, want, wantOK)
	}
}

func TestMay(t *testing.T) {
	for _, c := range []struct {
		w  api.Work
		ok bool
	}{
		{work(0, 1, 1, 1), true},
		{work(100, 1<<30, 1<<30, 1<<30), true},
		{work(5, 2, 10, 8), true},
		{work(-1, 2, 10, 8), false},
		{work(101, 2, 10, 8), false},
		{work(5, 0, 10, 8), false},
		{work(5, 9, 10, 8), false},
		{work(5, 2, 7, 8), false},
		{work(5, 2, 1<<30+1, 8), false},
		{work(5, 0, 0, 0), false},
		{work(5, top, top, top), false},
	} {
		if ok := rta.May(c.w); ok != c.ok {
			t.Errorf("P16.1: May(%v): %v", c.w, ok)
		}
		answers(t, []api.Work{c.w}, nil, 0, c.w.Cost*one(c.ok), c.ok)
		answers(t, []api.Work{work(0, 1, 1<<20, 1<<20), c.w}, nil, 0, 1*one(c.ok && c.w.Prio > 0), c.ok && c.w.Prio > 0)
	}
}

func one(ok bool) uint64 {
	if ok {
		return 1
	}
	return 0
}

func TestExtra(t *testing.T) {
	two := []api.Server{load(2, 10), load(1, 4)}
	for _, c := range []struct {
		loads       []api.Server
		span, extra uint64
	}{
		{nil, 10, 0},
		{two, 0, 0}, {two, 1, 1}, {two, 3, 3}, {two, 4, 3}, {two, 5, 4}, {two, 10, 5}, {two, 11, 7},
		{[]api.Server{load(10, 10)}, 25, 25},
		{[]api.Server{load(200, 200), load(1, 1)}, 1 << 30, 1 << 30},
		{two, 1 << 30, 1<<28 + 2*((1<<30+9)/10)},
		{two, 1<<30 + 1, 0}, {two, top, 0},
		{[]api.Server{load(2, 10), load(0, 10)}, 10, 0},
		{[]api.Server{load(11, 10)}, 10, 0},
		{[]api.Server{load(201, 1000)}, 10, 0},
		{[]api.Server{load(1, 1<<30)}, 10, 1},
		{[]api.Server{load(1, 1<<30+1)}, 10, 0},
		{slices.Repeat([]api.Server{load(1, 100)}, 16), 100, 16},
		{slices.Repeat([]api.Server{load(1, 100)}, 17), 100, 0},
	} {
		if extra := rta.Extra(c.loads, c.span); extra != c.extra {
			t.Errorf("P16.1: Extra(%v, %v): %v, not %v", c.loads, c.span, extra, c.extra)
		}
	}
}

func TestExample(t *testing.T) {
	tasks := []api.Work{work(1, 1, 4, 4), work(2, 2, 6, 6)}
	answers(t, tasks, nil, 0, 1, true)
	answers(t, tasks, nil, 1, 3, true)
	if !rta.All(tasks, nil) {
		t.Error("P16.2: All")
	}
}

func TestTime(t *testing.T) {
	alike := []api.Work{work(3, 2, 10, 10), work(3, 3, 10, 10)}
	answers(t, alike, nil, 0, 5, true)
	answers(t, alike, nil, 1, 5, true)
	// The time by which it must be done is in time; a tick ahead of it isn't.
	answers(t, []api.Work{work(1, 2, 10, 10), work(2, 3, 10, 5)}, nil, 1, 5, true)
	answers(t, []api.Work{work(1, 2, 10, 10), work(2, 3, 10, 4)}, nil, 1, 0, false)
	answers(t, []api.Work{work(1, 2, 5, 5), work(2, 3, 10, 10)}, nil, 1, 5, true)
	answers(t, []api.Work{work(1, 2, 4, 4), work(2, 3, 10, 10)}, nil, 1, 7, true)
	// Loads are more urgent than all tasks.
	answers(t, []api.Work{work(0, 2, 20, 20)}, []api.Server{load(3, 10)}, 0, 5, true)
	answers(t, []api.Work{work(0, 8, 20, 20)}, []api.Server{load(3, 10)}, 0, 14, true)
	answers(t, []api.Work{work(0, 1, 20, 20)}, []api.Server{load(10, 10)}, 0, 0, false)
}

func TestWhatMayNotBe(t *testing.T) {
	tasks := []api.Work{work(1, 1, 4, 4), work(2, 2, 6, 6)}
	for _, i := range []int{-1 << 63, -1, 2, 1 << 62} {
		answers(t, tasks, nil, i, 0, false)
	}
	answers(t, nil, nil, 0, 0, false)
	small := work(1, 1, 1000, 1000)
	for _, c := range []struct {
		tasks []api.Work
		loads []api.Server
		ok    bool
	}{
		{slices.Repeat([]api.Work{small}, 32), nil, true},
		{slices.Repeat([]api.Work{small}, 33), nil, false},
		{[]api.Work{small}, slices.Repeat([]api.Server{load(1, 1000)}, 16), true},
		{[]api.Work{small}, slices.Repeat([]api.Server{load(1, 1000)}, 17), false},
		{[]api.Work{small}, []api.Server{load(1, 1<<30)}, true},
		{[]api.Work{small}, []api.Server{load(1, 1<<30+1)}, false},
		{[]api.Work{small}, []api.Server{load(0, 10)}, false},
		{[]api.Work{small, {}}, nil, false},
	} {
		if _, ok := rta.Time(c.tasks, c.loads, 0); ok != c.ok {
			t.Errorf("P16.2: Time of %v tasks with %v: %v", len(c.tasks), c.loads, ok)
		}
		if ok := rta.All(c.tasks, c.loads); ok != c.ok {
			t.Errorf("P16.2: All of %v tasks with %v: %v", len(c.tasks), c.loads, ok)
		}
		last := len(c.tasks) - 1
		if ok := rta.Admit(c.tasks[:last], c.loads, c.tasks[last]); ok != c.ok {
			t.Errorf("P16.2: Admit to %v tasks with %v: %v", last, c.loads, ok)
		}
	}
}

// Example 7 of the whole.
func TestAdmit(t *testing.T) {
	tasks := []api.Work{work(1, 1, 4, 4), work(2, 2, 6, 6)}
	for _, c := range []struct {
		w  api.Work
		ok bool
	}{
		{work(3, 3, 12, 12), true},
		{work(3, 6, 12, 12), false},
		{work(1, 1, 8, 8), true},
		{work(0, 4, 8, 8), false},
		{work(0, 0, 8, 8), false},
	} {
		if ok := rta.Admit(tasks, nil, c.w); ok != c.ok {
			t.Errorf("P16.2: Admit(%v): %v", c.w, ok)
		}
	}
	if !rta.Admit(nil, nil, work(0, 1, 1, 1)) {
		t.Error("P16.2: Admit to none")
	}
	list := append(make([]api.Work, 0, 4), tasks...)
	rta.Admit(list, nil, work(3, 3, 12, 12))
	if spare := list[:3][2]; spare != (api.Work{}) {
		t.Errorf("P16.2: what was handed in is changed: %v", spare)
	}
	if !rta.All(nil, nil) {
		t.Error("P16.2: All of none")
	}
}

// asks is what a span must hold, by the chapter's words.
func asks(tasks []api.Work, loads []api.Server, i int, span uint64) uint64 {
	up := func(n, by uint64) uint64 { return (n + by - 1) / by }
	sum := tasks[i].Cost
	for j, w := range tasks {
		if j != i && w.Prio <= tasks[i].Prio {
			sum += up(span, w.Period) * w.Cost
		}
	}
	for _, l := range loads {
		sum += up(span, l.Period) * uint64(l.Budget)
	}
	return sum
}

func sought(tasks []api.Work, loads []api.Server, i int) (uint64, bool) {
	for span := tasks[i].Cost; span <= tasks[i].Dead; span++ {
		if asks(tasks, loads, i, span) == span {
			return span, true
		}
	}
	return 0, false
}

func someTask(r *rand.Rand) api.Work {
	period := 1 + uint64(r.Intn(60))
	dead := 1 + uint64(r.Int63n(int64(period)))
	return work(r.Intn(4), 1+uint64(r.Int63n(int64(min(dead, 8)))), period, dead)
}

func TestAgainstWords(t *testing.T) {
	r := rand.New(rand.NewSource(22))
	found := 0
	for range 4000 {
		var tasks []api.Work
		var loads []api.Server
		for range 1 + r.Intn(4) {
			tasks = append(tasks, someTask(r))
		}
		for range r.Intn(3) {
			budget := 1 + r.Intn(3)
			loads = append(loads, load(budget, uint64(budget+r.Intn(40))))
		}
		all := true
		for i, w := range tasks {
			want, ok := sought(tasks, loads, i)
			answers(t, tasks, loads, i, want, ok)
			all = all && ok
			if ok && (want < w.Cost || want > w.Dead) {
				t.Fatalf("P16.3: an answer time of %v: %v", w, want)
			}
		}
		if got := rta.All(tasks, loads); got != all {
			t.Fatalf("P16.2: All(%v, %v): %v", tasks, loads, got)
		}
		if all {
			found++
		}
		w := someTask(r)
		with := append(slices.Clone(tasks), w)
		if got := rta.Admit(tasks, loads, w); got != rta.All(with, loads) {
			t.Fatalf("P16.2: Admit(%v, %v, %v): %v", tasks, loads, w, got)
		}
		for i := range tasks {
			ahead, _ := rta.Time(tasks, loads, i)
			if then, ok := rta.Time(with, loads, i); ok && then < ahead {
				t.Fatalf("P16.3: with %v the answer time of %v is less", w, tasks[i])
			}
		}
	}
	if found < 100 {
		t.Errorf("only %v sets have answer times", found)
	}
}

// Where little time is left the answer is told as soon as elsewhere.
func TestLittleTimeLeft(t *testing.T) {
	const long = 1 << 30
	for _, c := range []struct {
		tasks []api.Work
		loads []api.Server
		r     uint64
		ok    bool
	}{
		{[]api.Work{work(5, 1, long, long)}, []api.Server{load(1, 1)}, 0, false},
		{[]api.Work{work(5, 1, long, long)}, []api.Server{load(1, 2), load(1, 3), load(1, 6)}, 0, false},
		{[]api.Work{work(5, 1, long, long)}, []api.Server{load(1, 2), load(1, 3), load(1, 7)}, 42, true},
		{[]api.Work{work(5, 1<<20, long, long)}, []api.Server{load(199, 200)}, 200 << 20, true},
		{[]api.Work{work(5, 1<<23, long, long)}, []api.Server{load(199, 200)}, 0, false},
		{[]api.Work{work(5, 500000, long, long)}, []api.Server{load(1, 2), load(1, 3), load(1, 7), load(1, 43)}, 903000000, true},
		{[]api.Work{work(5, long, long, long)}, nil, long, true},
		{[]api.Work{work(5, 1, long, long), work(4, long, long, long)}, nil, 0, false},
	} {
		answers(t, c.tasks, c.loads, 0, c.r, c.ok)
		if c.ok && asks(c.tasks, c.loads, 0, c.r) != c.r {
			t.Errorf("P16.2: %v isn't what it asks for", c.r)
		}
	}
}
