package bus_test

import (
	"math/rand"
	"slices"
	"testing"

	"linchpin/api"
	"linchpin/bus"
	"linchpin/share"
)

const top = 1<<64 - 1

var whole = api.Share{Budget: 10, Period: 10}

func made(t *testing.T, phase uint64, list ...api.Master) *bus.Bus {
	t.Helper()
	b, code := bus.New(list, phase)
	if b == nil || code != api.OK {
		t.Fatalf("P6.1: New(%v, %v): %v", list, phase, code)
	}
	return b
}

// slot asks for a slot; who is -1 where nobody is to have it.
func slot(t *testing.T, b *bus.Bus, now uint64, who int, wants ...int) {
	t.Helper()
	code := api.OK
	want := who
	if who < 0 {
		code, want = api.Empty, 0
	}
	if got, c := b.Slot(now, wants); got != want || c != code {
		t.Errorf("P6.1: Slot(%v, %v): %v, %v, not %v", now, wants, got, c, who)
	}
}

func row(t *testing.T, b *bus.Bus, who, n int) {
	t.Helper()
	if gotWho, got := b.Row(); gotWho != who || got != n {
		t.Errorf("P6.2: Row: %v, %v, not %v, %v", gotWho, got, who, n)
	}
}

func stalls(t *testing.T, b *bus.Bus, want ...int) {
	t.Helper()
	for id, n := range want {
		if got := b.Stalls(id); got != n {
			t.Errorf("P6.2: Stalls(%v): %v, not %v", id, got, n)
		}
	}
}

func TestMay(t *testing.T) {
	for _, c := range []struct {
		m  api.Master
		ok bool
	}{
		{api.Master{Share: whole}, true},
		{api.Master{Prio: 100, Burst: 1000, Share: whole}, true},
		{api.Master{Prio: -1, Share: whole}, false},
		{api.Master{Prio: 101, Share: whole}, false},
		{api.Master{Burst: -1, Share: whole}, false},
		{api.Master{Burst: 1001, Share: whole}, false},
		{api.Master{}, false},
		{api.Master{Share: api.Share{Budget: 2, Period: 1}}, false},
	} {
		if ok := bus.May(c.m); ok != c.ok {
			t.Errorf("P6.1: May(%v): %v", c.m, ok)
		}
		good := api.Master{Share: whole}
		if b, code := bus.New([]api.Master{good, c.m}, 0); (b != nil) != c.ok || !c.ok && code != api.Arg {
			t.Errorf("P6.1: New with %v: %v", c.m, code)
		}
		if b, code := bus.New([]api.Master{good, c.m}, api.Last); b != nil || c.ok && code != api.Horizon || !c.ok && code != api.Arg {
			t.Errorf("P6.1: New at the horizon with %v: %v", c.m, code)
		}
	}
}

func TestNew(t *testing.T) {
	for n := range 20 {
		list := make([]api.Master, n)
		for i := range list {
			list[i].Share = whole
		}
		ok := n >= 1 && n <= 16
		if b, code := bus.New(list, 0); (b != nil) != ok || (code == api.OK) != ok || !ok && code != api.Arg {
			t.Errorf("P6.1: New of %v: %v", n, code)
		}
	}
	b := made(t, 0, api.Master{Share: whole})
	row(t, b, -1, 0)
}

func TestExample(t *testing.T) {
	alike := api.Master{Burst: 1, Share: whole}
	b := made(t, 0, alike, alike)
	for now := range uint64(10) {
		slot(t, b, now, int(now%2), 1, 0)
	}
	stalls(t, b, 5, 5, 0)
}

func TestCodes(t *testing.T) {
	b := made(t, 5, api.Master{Share: whole}, api.Master{Share: whole})
	for _, c := range []struct {
		now   uint64
		wants []int
		code  api.Code
	}{
		{4, []int{0}, api.Arg},
		{0, nil, api.Arg},
		{api.Last, []int{0}, api.Horizon},
		{top, []int{9}, api.Horizon},
		{5, []int{2}, api.Arg},
		{5, []int{0, -1}, api.Arg},
		{5, []int{0, 1 << 62}, api.Arg},
		{5, []int{-1 << 63}, api.Arg},
	} {
		if who, code := b.Slot(c.now, c.wants); who != 0 || code != c.code {
			t.Errorf("P6.1: Slot(%v, %v): %v, %v", c.now, c.wants, who, code)
		}
	}
	stalls(t, b, 0, 0)
	row(t, b, -1, 0)
	slot(t, b, 5, 1, 1)
	if who, code := b.Slot(5, []int{0}); who != 0 || code != api.Arg {
		t.Errorf("P6.1: a slot, again: %v, %v", who, code)
	}
	row(t, b, 1, 1)
	slot(t, b, api.Last-1, 0, 0)
	for _, id := range []int{-1 << 63, -1, 2, 16, 1<<63 - 1} {
		if n := b.Stalls(id); n != 0 {
			t.Errorf("P6.2: Stalls(%v): %v", id, n)
		}
	}
}

func TestUrgency(t *testing.T) {
	b := made(t, 0,
		api.Master{Prio: 7, Share: whole},
		api.Master{Prio: 3, Share: api.Share{Budget: 1, Period: 10}},
		api.Master{Prio: 7, Share: whole},
		api.Master{Prio: 3, Share: whole})
	slot(t, b, 0, 1, 3, 2, 1, 0)
	slot(t, b, 1, 3, 3, 2, 1, 0)
	slot(t, b, 2, 0, 2, 0)
	slot(t, b, 3, 2, 2)
	slot(t, b, 4, 2, 2, 2, 1, 1)
	stalls(t, b, 2, 2, 3, 1)
	slot(t, b, 5, -1)
	row(t, b, -1, 0)
	slot(t, b, 10, 1, 0, 1, 2)
}

func TestNobodyMay(t *testing.T) {
	b := made(t, 0, api.Master{Burst: 2, Share: whole}, api.Master{Share: api.Share{Budget: 1, Period: 100}})
	slot(t, b, 0, 0, 0)
	slot(t, b, 1, 0, 0)
	row(t, b, 0, 2)
	slot(t, b, 2, -1, 0, 0)
	row(t, b, -1, 0)
	stalls(t, b, 1, 0)
	slot(t, b, 3, 0, 0)
	row(t, b, 0, 1)
	slot(t, b, 4, 1, 1)
	slot(t, b, 5, -1, 1, 1, 1)
	stalls(t, b, 1, 1)
}

func TestRow(t *testing.T) {
	b := made(t, 0, api.Master{Burst: 2, Share: whole}, api.Master{Prio: 1, Share: whole})
	slot(t, b, 0, 0, 0)
	slot(t, b, 1, 0, 0)
	slot(t, b, 3, 0, 0)
	row(t, b, 0, 1)
	slot(t, b, 4, 0, 0, 1)
	slot(t, b, 5, 1, 0, 1)
	row(t, b, 1, 1)
	slot(t, b, 6, 0, 0, 1)
	slot(t, b, 7, 0, 0, 1)
	slot(t, b, 8, 1, 0, 1)
	stalls(t, b, 2, 3)
}

func TestWantsAreKept(t *testing.T) {
	list := []api.Master{{Share: whole}, {Prio: 1, Share: whole}}
	b := made(t, 0, list...)
	wants := []int{1, 1, 0, 7}[:3]
	slot(t, b, 0, 0, wants...)
	if !slices.Equal(wants[:4], []int{1, 1, 0, 7}) {
		t.Errorf("P6.1: what was handed in is changed: %v", wants[:4])
	}
	list[0].Prio = 100
	slot(t, b, 1, 0, wants...)
}

// model is a bus as plainly as can be: it keeps all slots, and counts them anew each time.
type model struct {
	list []api.Master
	had  map[uint64]int
}

func (m *model) inRow(id int, now uint64) int {
	n := 0
	for now > 0 {
		now--
		if who, ok := m.had[now]; !ok || who != id {
			break
		}
		n++
	}
	return n
}

func (m *model) used(id int, now, phase uint64) uint64 {
	n := uint64(0)
	period := m.list[id].Share.Period
	for at := phase + (now-phase)/period*period; at < now; at++ {
		if who, ok := m.had[at]; ok && who == id {
			n++
		}
	}
	return n
}

func (m *model) who(now, phase uint64, wants []int) int {
	who := -1
	for id, c := range m.list {
		if !slices.Contains(wants, id) || m.used(id, now, phase) >= c.Share.Budget || c.Burst > 0 && m.inRow(id, now) >= c.Burst {
			continue
		}
		if who < 0 || c.Prio < m.list[who].Prio {
			who = id
		}
	}
	return who
}

func TestAgainstModel(t *testing.T) {
	r := rand.New(rand.NewSource(8))
	for range 100 {
		var list []api.Master
		for range 1 + r.Intn(4) {
			period := 1 + uint64(r.Intn(12))
			list = append(list, api.Master{Prio: r.Intn(3), Burst: r.Intn(4), Share: api.Share{Budget: 1 + uint64(r.Intn(int(period))), Period: period}})
		}
		phase := uint64(r.Intn(10))
		b := made(t, phase, list...)
		m := &model{list, map[uint64]int{}}
		stalled := make([]int, len(list))
		for now := phase; now < phase+100; now += 1 + uint64(r.Intn(8)/7) {
			var wants []int
			for range r.Intn(6) {
				wants = append(wants, r.Intn(len(list)))
			}
			who := m.who(now, phase, wants)
			slot(t, b, now, who, wants...)
			for id := range list {
				if id != who && slices.Contains(wants, id) {
					stalled[id]++
				}
			}
			if who < 0 {
				row(t, b, -1, 0)
				continue
			}
			m.had[now] = who
			row(t, b, who, m.inRow(who, now+1))
		}
		stalls(t, b, stalled...)
		bounds(t, m, phase)
	}
}

// bounds looks whether each span and each row is within what a master may have.
func bounds(t *testing.T, m *model, phase uint64) {
	for id, c := range m.list {
		for from := phase; from < phase+100; from++ {
			n := uint64(0)
			for now := from; now < phase+100; now++ {
				if who, ok := m.had[now]; ok && who == id {
					n++
				}
				if most := share.Most(c.Share, now-from+1); n > most {
					t.Fatalf("P6.3: %v slots from %v to %v, at most %v", n, from, now, most)
				}
				if c.Burst > 0 && m.inRow(id, now+1) > c.Burst {
					t.Fatalf("P6.3: %v in a row at %v", m.inRow(id, now+1), now)
				}
			}
		}
	}
}
