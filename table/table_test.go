package table_test

import (
	"math/rand"
	"slices"
	"testing"

	"linchpin/api"
	"linchpin/table"
)

func made(t *testing.T, size int) *table.Table {
	t.Helper()
	tab, code := table.New(size)
	if tab == nil || code != api.OK {
		t.Fatalf("P2.1: New(%v): %v", size, code)
	}
	return tab
}

func TestNew(t *testing.T) {
	for _, size := range []int{-1 << 63, -1, 0, 1001, 1<<63 - 1} {
		if tab, code := table.New(size); tab != nil || code != api.Arg {
			t.Errorf("P2.1: New(%v): %v", size, code)
		}
	}
	for _, size := range []int{1, 2, 1000} {
		tab := made(t, size)
		if tab.Count() != 0 || len(tab.All()) != 0 {
			t.Errorf("P2.2: a new table of %v isn't empty", size)
		}
		for i := range size {
			if h, code := tab.Put(i); h != (api.Handle{Slot: i, Gen: 1}) || code != api.OK {
				t.Fatalf("P2.1: Put into slot %v: %v, %v", i, h, code)
			}
		}
		if h, code := tab.Put(7); h != (api.Handle{}) || code != api.Full {
			t.Errorf("P2.1: Put into a full table of %v: %v, %v", size, h, code)
		}
		if tab.Count() != size {
			t.Errorf("P2.2: Count of a full table of %v: %v", size, tab.Count())
		}
	}
}

func TestExample(t *testing.T) {
	tab := made(t, 3)
	first, _ := tab.Put(7)
	if first != (api.Handle{Slot: 0, Gen: 1}) {
		t.Errorf("P2.1: the first handle: %v", first)
	}
	if v, code := tab.Drop(first); v != 7 || code != api.OK {
		t.Errorf("P2.1: Drop: %v, %v", v, code)
	}
	second, _ := tab.Put(8)
	if second != (api.Handle{Slot: 0, Gen: 2}) {
		t.Errorf("P2.1: the second handle: %v", second)
	}
	if v, code := tab.Get(first); v != 0 || code != api.Stale {
		t.Errorf("P2.3: Get of a stale handle: %v, %v", v, code)
	}
	if v, code := tab.Drop(first); v != 0 || code != api.Stale {
		t.Errorf("P2.3: Drop of a stale handle: %v, %v", v, code)
	}
	if code := tab.Set(first, 9); code != api.Stale {
		t.Errorf("P2.3: Set of a stale handle: %v", code)
	}
	if v, code := tab.Get(second); v != 8 || code != api.OK {
		t.Errorf("P2.3: Get: %v, %v", v, code)
	}
}

func TestStaleHandles(t *testing.T) {
	tab := made(t, 2)
	h, _ := tab.Put(0)
	for _, stale := range []api.Handle{{Slot: -1, Gen: 1}, {Slot: 2, Gen: 1}, {Slot: 1 << 62, Gen: 1}, {Slot: -1 << 63}, {Slot: 0}, {Slot: 0, Gen: 2}, {Slot: 1, Gen: 1}, {Slot: 1}, {Slot: 0, Gen: 1<<64 - 1}} {
		if v, code := tab.Get(stale); v != 0 || code != api.Stale {
			t.Errorf("P2.1: Get(%v): %v, %v", stale, v, code)
		}
		if v, code := tab.Drop(stale); v != 0 || code != api.Stale {
			t.Errorf("P2.1: Drop(%v): %v, %v", stale, v, code)
		}
		if code := tab.Set(stale, 3); code != api.Stale {
			t.Errorf("P2.1: Set(%v): %v", stale, code)
		}
	}
	if v, code := tab.Get(h); v != 0 || code != api.OK {
		t.Errorf("P2.1: a 0 that lies there: %v, %v", v, code)
	}
}

// model is a table as plainly as can be.
type model struct {
	gen  []uint64
	used []bool
	v    []int
}

func (m *model) all() []api.Handle {
	var l []api.Handle
	for i, used := range m.used {
		if used {
			l = append(l, api.Handle{Slot: i, Gen: m.gen[i]})
		}
	}
	return l
}

func TestAgainstModel(t *testing.T) {
	const size = 5
	tab := made(t, size)
	m := model{make([]uint64, size), make([]bool, size), make([]int, size)}
	for i := range m.gen {
		m.gen[i] = 1
	}
	r := rand.New(rand.NewSource(1))
	for step := range 5000 {
		h := api.Handle{Slot: r.Intn(size), Gen: 1 + uint64(r.Intn(3))}
		if r.Intn(3) > 0 {
			h.Gen = m.gen[h.Slot]
		}
		ok := m.used[h.Slot] && m.gen[h.Slot] == h.Gen
		want, wantCode := 0, api.Stale
		if ok {
			want, wantCode = m.v[h.Slot], api.OK
		}
		switch r.Intn(4) {
		case 0:
			free := slices.Index(m.used, false)
			put, code := tab.Put(step)
			if free < 0 && (put != api.Handle{} || code != api.Full) || free >= 0 && (put != api.Handle{Slot: free, Gen: m.gen[free]} || code != api.OK) {
				t.Fatalf("P2.1: step %v: Put: %v, %v", step, put, code)
			}
			if free >= 0 {
				m.used[free], m.v[free] = true, step
			}
		case 1:
			if v, code := tab.Drop(h); v != want || code != wantCode {
				t.Fatalf("P2.1: step %v: Drop: %v, %v", step, v, code)
			}
			if ok {
				m.used[h.Slot] = false
				m.gen[h.Slot]++
			}
		case 2:
			if v, code := tab.Get(h); v != want || code != wantCode {
				t.Fatalf("P2.1: step %v: Get: %v, %v", step, v, code)
			}
		case 3:
			if code := tab.Set(h, -step); code != wantCode {
				t.Fatalf("P2.1: step %v: Set: %v", step, code)
			}
			if ok {
				m.v[h.Slot] = -step
			}
		}
		if all := tab.All(); !slices.Equal(all, m.all()) || tab.Count() != len(all) {
			t.Fatalf("P2.2: step %v: All: %v, not %v; Count: %v", step, all, m.all(), tab.Count())
		}
	}
}

func TestAnswersAreNew(t *testing.T) {
	tab := made(t, 2)
	h, _ := tab.Put(1)
	tab.All()[0] = api.Handle{}
	if all := tab.All(); !slices.Equal(all, []api.Handle{h}) {
		t.Errorf("P2.2: All, written over: %v", all)
	}
}
