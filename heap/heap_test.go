package heap_test

import (
	"cmp"
	"math/rand"
	"slices"
	"testing"

	"linchpin/api"
	"linchpin/heap"
)

func made(t *testing.T, size int) *heap.Heap {
	t.Helper()
	h, code := heap.New(size)
	if h == nil || code != api.OK {
		t.Fatalf("P3.1: New(%v): %v", size, code)
	}
	return h
}

func TestNew(t *testing.T) {
	for _, size := range []int{-1 << 63, -1, 0, 1001, 1<<63 - 1} {
		if h, code := heap.New(size); h != nil || code != api.Arg {
			t.Errorf("P3.1: New(%v): %v", size, code)
		}
	}
	for _, size := range []int{1, 7, 1000} {
		h := made(t, size)
		if h.Len() != 0 {
			t.Errorf("P3.1: a new heap of %v has members", size)
		}
		for _, id := range []int{-1 << 63, -1, size, 1<<63 - 1} {
			if code := h.Put(id, 5); code != api.Arg {
				t.Errorf("P3.1: Put(%v) with size %v: %v", id, size, code)
			}
		}
		if code := h.Put(size-1, 5); code != api.OK || h.Len() != 1 {
			t.Errorf("P3.1: Put of the greatest number of %v: %v", size, code)
		}
	}
}

func TestNoMember(t *testing.T) {
	h := made(t, 3)
	if id, key, code := h.First(); id != 0 || key != 0 || code != api.Empty {
		t.Errorf("P3.2: First of none: %v, %v, %v", id, key, code)
	}
	if id, key, code := h.Take(); id != 0 || key != 0 || code != api.Empty {
		t.Errorf("P3.2: Take of none: %v, %v, %v", id, key, code)
	}
	h.Put(1, 4)
	for _, id := range []int{-1 << 63, -1, 0, 2, 3, 1<<63 - 1} {
		if key, code := h.Key(id); key != 0 || code != api.NotFound {
			t.Errorf("P3.1: Key(%v): %v, %v", id, key, code)
		}
		if code := h.Drop(id); code != api.NotFound {
			t.Errorf("P3.1: Drop(%v): %v", id, code)
		}
	}
	if id, key, code := h.First(); id != 1 || key != 4 || code != api.OK || h.Len() != 1 {
		t.Errorf("P3.2: First of one: %v, %v, %v", id, key, code)
	}
}

func TestExample(t *testing.T) {
	h := made(t, 10)
	h.Put(5, 9)
	h.Put(3, 9)
	h.Put(7, 1)
	for _, want := range []struct {
		id  int
		key uint64
	}{{7, 1}, {3, 9}, {5, 9}} {
		if id, key, code := h.Take(); id != want.id || key != want.key || code != api.OK {
			t.Errorf("P3.2: Take: %v, %v, %v, not %v", id, key, code, want)
		}
	}
	if _, _, code := h.Take(); code != api.Empty {
		t.Errorf("P3.3: a member is taken twice: %v", code)
	}
}

func TestPutAnew(t *testing.T) {
	h := made(t, 4)
	for id := range 4 {
		h.Put(id, uint64(10+id))
	}
	h.Put(0, 1<<64-1)
	h.Put(3, 0)
	if key, code := h.Key(0); key != 1<<64-1 || code != api.OK {
		t.Errorf("P3.1: Key of one put anew: %v, %v", key, code)
	}
	if h.Len() != 4 {
		t.Errorf("P3.1: one put anew is there twice: %v", h.Len())
	}
	var ids []int
	for h.Len() > 0 {
		id, _, _ := h.Take()
		ids = append(ids, id)
	}
	if !slices.Equal(ids, []int{3, 1, 2, 0}) {
		t.Errorf("P3.3: taken: %v", ids)
	}
}

type member struct {
	id  int
	key uint64
}

// sorted is a heap as plainly as can be: who is first is sought anew each time.
func sorted(keys map[int]uint64) []member {
	var l []member
	for id, key := range keys {
		l = append(l, member{id, key})
	}
	slices.SortFunc(l, func(a, b member) int {
		return cmp.Or(cmp.Compare(a.key, b.key), cmp.Compare(a.id, b.id))
	})
	return l
}

func TestAgainstModel(t *testing.T) {
	const size = 20
	r := rand.New(rand.NewSource(3))
	h := made(t, size)
	keys := map[int]uint64{}
	for step := range 20000 {
		id, key := r.Intn(size), uint64(r.Intn(8))
		old, has := keys[id]
		codeOf := map[bool]api.Code{true: api.OK, false: api.NotFound}
		switch r.Intn(5) {
		case 0, 1:
			if code := h.Put(id, key); code != api.OK {
				t.Fatalf("P3.1: step %v: Put(%v): %v", step, id, code)
			}
			keys[id] = key
		case 2:
			if code := h.Drop(id); code != codeOf[has] {
				t.Fatalf("P3.1: step %v: Drop(%v): %v", step, id, code)
			}
			delete(keys, id)
		case 3:
			if key, code := h.Key(id); key != old || code != codeOf[has] {
				t.Fatalf("P3.1: step %v: Key(%v): %v, %v", step, id, key, code)
			}
		case 4:
			first := append(sorted(keys), member{})[0]
			id, key, code := h.Take()
			if (member{id, key}) != first || (code == api.OK) != (len(keys) > 0) {
				t.Fatalf("P3.2: step %v: Take: %v, %v, %v, not %v", step, id, key, code, first)
			}
			delete(keys, first.id)
		}
		if id, key, _ := h.First(); (member{id, key}) != append(sorted(keys), member{})[0] || h.Len() != len(keys) {
			t.Fatalf("P3.2: step %v: First: %v, %v; Len: %v", step, id, key, h.Len())
		}
	}
}

func TestTakenInOrder(t *testing.T) {
	r := rand.New(rand.NewSource(4))
	h := made(t, 1000)
	keys := map[int]uint64{}
	for id := range 1000 {
		keys[id] = uint64(r.Intn(100))
		h.Put(id, keys[id])
	}
	for _, want := range sorted(keys) {
		if id, key, code := h.Take(); (member{id, key}) != want || code != api.OK {
			t.Fatalf("P3.3: Take: %v, %v, %v, not %v", id, key, code, want)
		}
	}
}
