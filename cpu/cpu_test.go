package cpu_test

import (
	"math/rand"
	"slices"
	"testing"

	"linchpin/api"
	"linchpin/cpu"
	"linchpin/rta"
)

const (
	top    = 1<<64 - 1
	nobody = -1
)

func work(prio int, cost, period, dead uint64) api.Work {
	return api.Work{Prio: prio, Cost: cost, Period: period, Dead: dead}
}

func load(budget int, period uint64) api.Server {
	return api.Server{Budget: budget, Period: period}
}

func made(t *testing.T, tasks []api.Work, loads []api.Server) *cpu.Cpu {
	t.Helper()
	c, code := cpu.New(tasks, loads)
	if c == nil || code != api.OK {
		t.Fatalf("P17.1: New(%v, %v): %v", tasks, loads, code)
	}
	return c
}

func is(t *testing.T, what string, code, want api.Code) {
	t.Helper()
	if code != want {
		t.Errorf("%v: %v, not %v", what, code, want)
	}
}

func same(a, b api.Ran) bool {
	return a.Who == b.Who && slices.Equal(a.Done, b.Done) && slices.Equal(a.Cut, b.Cut) && slices.Equal(a.Missed, b.Missed)
}

// ran looks what a tick told.
func ran(t *testing.T, c *cpu.Cpu, want api.Ran) {
	t.Helper()
	now := c.Now()
	if c.Wants() != (want.Who != nobody) {
		t.Errorf("P17.2: at %v: Wants: %v", now, c.Wants())
	}
	if got, code := c.Tick(); !same(got, want) || code != api.OK || c.Now() != now+1 {
		t.Errorf("P17.2: at %v: Tick: %v, %v, not %v", now, got, code, want)
	}
}

func TestNew(t *testing.T) {
	good, server := work(1, 1, 10, 10), load(1, 10)
	for i, c := range []struct {
		tasks []api.Work
		loads []api.Server
		ok    bool
	}{
		{nil, nil, true},
		{[]api.Work{good}, nil, true},
		{nil, []api.Server{server}, true},
		{slices.Repeat([]api.Work{good}, 32), slices.Repeat([]api.Server{server}, 16), true},
		{slices.Repeat([]api.Work{good}, 33), nil, false},
		{nil, slices.Repeat([]api.Server{server}, 17), false},
		{[]api.Work{good, {}}, nil, false},
		{[]api.Work{good, work(101, 1, 10, 10)}, nil, false},
		{[]api.Work{work(1, 1, 1<<30, 10)}, nil, true},
		{[]api.Work{work(1, 1, 1<<30+1, 10)}, nil, false},
		{[]api.Work{work(1, 11, 10, 10)}, nil, false},
		{[]api.Work{good}, []api.Server{server, load(0, 10)}, false},
		{nil, []api.Server{load(11, 10)}, false},
		{nil, []api.Server{load(201, 1000)}, false},
		{nil, []api.Server{load(200, 1<<30)}, true},
		{nil, []api.Server{load(1, 1<<30+1)}, false},
	} {
		made, code := cpu.New(c.tasks, c.loads)
		if (made != nil) != c.ok || (code == api.OK) != c.ok || !c.ok && code != api.Arg {
			t.Errorf("P17.1: New of %v: %v", i, code)
		}
		if c.ok && (made.Now() != 0 || made.Wants()) {
			t.Errorf("P17.1: a new processor: %v, %v", made.Now(), made.Wants())
		}
	}
}

func TestExample(t *testing.T) {
	c := made(t, []api.Work{work(5, 1, 10, 10)}, []api.Server{load(2, 10)})
	is(t, "P17.1: Wake", c.Wake(0, 5), api.OK)
	is(t, "P17.1: Release", c.Release(0, 1), api.OK)
	ran(t, c, api.Ran{Who: 100})
	ran(t, c, api.Ran{Who: 100})
	ran(t, c, api.Ran{Who: 0, Done: []int{0}})
	for range 7 {
		ran(t, c, api.Ran{Who: nobody})
	}
	ran(t, c, api.Ran{Who: 100})
	if n := c.Work(0); n != 2 {
		t.Errorf("P17.2: Work: %v", n)
	}
}

func TestReleaseCodes(t *testing.T) {
	c := made(t, []api.Work{work(5, 1, 10, 4), work(6, 1, 3, 3)}, nil)
	for _, k := range []struct {
		id     int
		demand uint64
		code   api.Code
	}{{-1, 1, api.Arg}, {2, 1, api.Arg}, {1 << 62, 1, api.Arg}, {-1 << 63, 1, api.Arg}, {0, 0, api.Arg}, {0, top, api.OK}, {0, 1, api.State}, {0, 0, api.Arg}} {
		is(t, "P17.1: Release", c.Release(k.id, k.demand), k.code)
	}
	ran(t, c, api.Ran{Who: 0, Cut: []int{0}})
	for range 9 {
		is(t, "P17.1: Release, too soon", c.Release(0, 1), api.Denied)
		ran(t, c, api.Ran{Who: nobody})
	}
	is(t, "P17.1: Release, a period later", c.Release(0, 1), api.OK)
	is(t, "P17.1: Release of another one", c.Release(1, 1), api.OK)
	is(t, "P17.1: Release of one that is there", c.Release(1, 1), api.State)
}

func TestJob(t *testing.T) {
	c := made(t, []api.Work{work(5, 3, 10, 7), work(6, 2, 10, 8)}, nil)
	job := func(id int, wantRan, wantUntil uint64, wantOK bool) {
		t.Helper()
		if ran, until, ok := c.Job(id); ran != wantRan || until != wantUntil || ok != wantOK {
			t.Errorf("P17.2: Job(%v): %v, %v, %v", id, ran, until, ok)
		}
	}
	for _, id := range []int{-1 << 63, -1, 0, 1, 2, 1 << 62} {
		job(id, 0, 0, false)
	}
	c.Skip()
	c.Release(0, 3)
	job(0, 0, 8, true)
	ran(t, c, api.Ran{Who: 0})
	c.Release(1, 9)
	ran(t, c, api.Ran{Who: 0})
	job(0, 2, 8, true)
	job(1, 0, 10, true)
	ran(t, c, api.Ran{Who: 0, Done: []int{0}})
	job(0, 0, 0, false)
	ran(t, c, api.Ran{Who: 1})
	ran(t, c, api.Ran{Who: 1, Cut: []int{1}})
	job(1, 0, 0, false)
}

func TestOrder(t *testing.T) {
	c := made(t, []api.Work{work(5, 2, 50, 50), work(5, 2, 50, 50), work(3, 1, 50, 50), work(9, 1, 50, 50)}, nil)
	c.Release(3, 1)
	c.Release(1, 2)
	c.Release(0, 2)
	ran(t, c, api.Ran{Who: 1})
	c.Release(2, 1)
	ran(t, c, api.Ran{Who: 2, Done: []int{2}})
	ran(t, c, api.Ran{Who: 1, Done: []int{1}})
	ran(t, c, api.Ran{Who: 0})
	ran(t, c, api.Ran{Who: 0, Done: []int{0}})
	ran(t, c, api.Ran{Who: 3, Done: []int{3}})
	ran(t, c, api.Ran{Who: nobody})
}

func TestWake(t *testing.T) {
	c := made(t, nil, []api.Server{load(1, 3), load(2, 4)})
	for _, no := range []int{-1 << 63, -1, 2, 100, 1 << 62} {
		is(t, "P17.1: Wake", c.Wake(no, 1), api.Arg)
		if n := c.Work(no); n != 0 {
			t.Errorf("P17.2: Work(%v): %v", no, n)
		}
	}
	c.Wake(1, 2)
	c.Wake(0, 0)
	ran(t, c, api.Ran{Who: 101})
	c.Wake(0, 2)
	ran(t, c, api.Ran{Who: 100})
	ran(t, c, api.Ran{Who: 101})
	ran(t, c, api.Ran{Who: nobody})
	ran(t, c, api.Ran{Who: 100})
	ran(t, c, api.Ran{Who: nobody})
	c.Wake(0, 1<<20-1)
	c.Wake(0, 5)
	if n := c.Work(0); n != 1<<20 {
		t.Errorf("P17.1: Work of one that was given too much: %v", n)
	}
	is(t, "P17.1: Wake, too much", c.Wake(1, top), api.OK)
	is(t, "P17.1: Wake, too much", c.Wake(1, top), api.OK)
	if n := c.Work(1); n != 1<<20 {
		t.Errorf("P17.1: Work of one that was given too much: %v", n)
	}
}

func TestSkip(t *testing.T) {
	c := made(t, []api.Work{work(5, 1, 10, 3), work(6, 1, 10, 3), work(7, 1, 10, 4)}, []api.Server{load(1, 10)})
	c.Release(1, 1)
	c.Release(0, 1)
	c.Release(2, 1)
	c.Wake(0, 1)
	for now := range uint64(5) {
		if c.Now() != now || !c.Wants() {
			t.Errorf("P17.2: at %v: Now: %v, Wants: %v", now, c.Now(), c.Wants())
		}
		want := api.Ran{Who: nobody}
		switch now {
		case 2:
			want.Missed = []int{0, 1}
		case 3:
			want.Missed = []int{2}
		}
		if got, code := c.Skip(); !same(got, want) || code != api.OK {
			t.Errorf("P17.2: at %v: Skip: %v, %v", now, got, code)
		}
	}
	if _, until, ok := c.Job(0); until != 3 || !ok {
		t.Error("P17.2: a job that missed its time is gone")
	}
	ran(t, c, api.Ran{Who: 100})
	ran(t, c, api.Ran{Who: 0, Done: []int{0}})
}

func TestDoneInTheLastTick(t *testing.T) {
	c := made(t, []api.Work{work(5, 3, 9, 3), work(4, 1, 9, 9)}, nil)
	c.Release(0, 3)
	ran(t, c, api.Ran{Who: 0})
	ran(t, c, api.Ran{Who: 0})
	ran(t, c, api.Ran{Who: 0, Done: []int{0}})
	for range 6 {
		c.Skip()
	}
	c.Release(0, 3)
	c.Release(1, 1)
	ran(t, c, api.Ran{Who: 1, Done: []int{1}})
	ran(t, c, api.Ran{Who: 0})
	ran(t, c, api.Ran{Who: 0, Missed: []int{0}})
	ran(t, c, api.Ran{Who: 0, Done: []int{0}})
}

// model is a processor as plainly as can be.
type model struct {
	tasks []api.Work
	loads []api.Server
	now   uint64
	jobs  []job // as they were released
	last  map[int]uint64
	work  []uint64
	uses  [][]uint64
}

type job struct {
	id          int
	demand, ran uint64
	until       uint64
}

func (m *model) there(id int) int {
	return slices.IndexFunc(m.jobs, func(j job) bool { return j.id == id })
}

func (m *model) release(id int, demand uint64) api.Code {
	last, began := m.last[id]
	switch {
	case demand == 0:
		return api.Arg
	case m.there(id) >= 0:
		return api.State
	case began && m.now-last < m.tasks[id].Period:
		return api.Denied
	}
	m.last[id] = m.now
	m.jobs = append(m.jobs, job{id: id, demand: demand, until: m.now + m.tasks[id].Dead})
	return api.OK
}

func (m *model) who() int {
	for no, l := range m.loads {
		out := 0
		for _, at := range m.uses[no] {
			if at+l.Period > m.now {
				out++
			}
		}
		if m.work[no] > 0 && out < l.Budget {
			return 100 + no
		}
	}
	who := nobody
	for _, j := range m.jobs {
		if who == nobody || m.tasks[j.id].Prio < m.tasks[who].Prio {
			who = j.id
		}
	}
	return who
}

func (m *model) step(who int) api.Ran {
	r := api.Ran{Who: who}
	if who >= 100 {
		m.work[who-100]--
		m.uses[who-100] = append(m.uses[who-100], m.now)
	} else if who != nobody {
		at := m.there(who)
		m.jobs[at].ran++
		if m.jobs[at].ran == m.jobs[at].demand {
			r.Done = []int{who}
		} else if m.jobs[at].ran == m.tasks[who].Cost {
			r.Cut = []int{who}
		}
		if r.Done != nil || r.Cut != nil {
			m.jobs = slices.Delete(m.jobs, at, at+1)
		}
	}
	m.now++
	for _, j := range m.jobs {
		if j.until == m.now {
			r.Missed = append(r.Missed, j.id)
		}
	}
	slices.Sort(r.Missed)
	return r
}

func someSet(r *rand.Rand) (tasks []api.Work, loads []api.Server) {
	for range 1 + r.Intn(5) {
		period := 2 + uint64(r.Intn(30))
		dead := 1 + uint64(r.Int63n(int64(period)))
		tasks = append(tasks, work(r.Intn(4), 1+uint64(r.Int63n(int64(min(dead, 5)))), period, dead))
	}
	for range r.Intn(4) {
		budget := 1 + r.Intn(3)
		loads = append(loads, load(budget, uint64(budget+r.Intn(20))))
	}
	return tasks, loads
}

func TestAgainstModel(t *testing.T) {
	r := rand.New(rand.NewSource(23))
	for range 150 {
		tasks, loads := someSet(r)
		c := made(t, tasks, loads)
		m := &model{tasks: tasks, loads: loads, last: map[int]uint64{}, work: make([]uint64, len(loads)), uses: make([][]uint64, len(loads))}
		for range 300 {
			if r.Intn(2) == 0 {
				id, demand := r.Intn(len(tasks)), uint64(r.Intn(7))
				is(t, "P17.1: Release", c.Release(id, demand), m.release(id, demand))
			}
			if len(loads) > 0 && r.Intn(4) == 0 {
				no, n := r.Intn(len(loads)), uint64(r.Intn(6))
				is(t, "P17.1: Wake", c.Wake(no, n), api.OK)
				m.work[no] += n
			}
			if r.Intn(10) == 0 {
				want := m.step(nobody)
				if got, code := c.Skip(); !same(got, want) || code != api.OK {
					t.Errorf("P17.2: Skip: %v, %v, not %v", got, code, want)
				}
			} else {
				ran(t, c, m.step(m.who()))
			}
			for no, n := range m.work {
				if c.Work(no) != n {
					t.Errorf("P17.2: Work(%v): %v, not %v", no, c.Work(no), n)
				}
			}
			for id := range tasks {
				at := m.there(id)
				n, until, ok := c.Job(id)
				if ok != (at >= 0) || ok && (n != m.jobs[at].ran || until != m.jobs[at].until) {
					t.Errorf("P17.2: Job(%v): %v, %v, %v", id, n, until, ok)
				}
			}
			if t.Failed() {
				t.FailNow()
			}
		}
	}
}

// Whatever is released and woken, who has an answer time is done, or cut off, by it; example 8 of the whole.
func TestInTime(t *testing.T) {
	r := rand.New(rand.NewSource(24))
	sets := 0
	for sets < 60 {
		tasks, loads := someSet(r)
		if !rta.All(tasks, loads) {
			continue
		}
		sets++
		c := made(t, tasks, loads)
		began := make([]uint64, len(tasks))
		eager := 1 + r.Intn(10)
		for range 600 {
			for id := range tasks {
				if r.Intn(10) < eager && c.Release(id, 1+uint64(r.Intn(9))) == api.OK {
					began[id] = c.Now()
				}
			}
			for no := range loads {
				if r.Intn(10) < eager {
					c.Wake(no, uint64(r.Intn(100)))
				}
			}
			got, _ := c.Tick()
			if len(got.Missed) > 0 {
				t.Fatalf("P17.3: %v with %v at %v: %v missed", tasks, loads, c.Now(), got.Missed)
			}
			for _, id := range append(slices.Clone(got.Done), got.Cut...) {
				if within, _ := rta.Time(tasks, loads, id); c.Now()-began[id] > within {
					t.Fatalf("P17.3: %v with %v: %v took %v, not %v", tasks, loads, id, c.Now()-began[id], within)
				}
			}
		}
	}
}
