package ring_test

import (
	"math/rand"
	"slices"
	"testing"

	"linchpin/api"
	"linchpin/ring"
)

func made(t *testing.T, size int) *ring.Ring {
	t.Helper()
	r, code := ring.New(size)
	if r == nil || code != api.OK {
		t.Fatalf("P10.1: New(%v): %v", size, code)
	}
	return r
}

// of tells a descriptor of a request as it is handed in, and inRing as it lies in a ring then.
func of(req int) api.Desc {
	return api.Desc{Op: 3, Req: req, Buf: api.Handle{Slot: 1, Gen: 2}, From: 4, Len: 5}
}

func inRing(req int) api.Desc {
	d := of(req)
	d.Device = true
	return d
}

func finished(req, status int) api.Desc {
	d := of(req)
	d.Done, d.Status = true, status
	return d
}

func is(t *testing.T, what string, code, want api.Code) {
	t.Helper()
	if code != want {
		t.Errorf("%v: %v, not %v", what, code, want)
	}
}

func counts(t *testing.T, r *ring.Ring, put, taken, reaped int) {
	t.Helper()
	if p, k, c := r.Counts(); p != put || k != taken || c != reaped {
		t.Errorf("P10.2: Counts: %v, %v, %v, not %v, %v, %v", p, k, c, put, taken, reaped)
	}
}

func take(t *testing.T, r *ring.Ring, no, req int) {
	t.Helper()
	if n, d, code := r.Take(); n != no || d != inRing(req) || code != api.OK {
		t.Errorf("P10.1: Take: %v, %v, %v", n, d, code)
	}
}

func TestNew(t *testing.T) {
	for _, size := range []int{-1 << 63, -1, 0, 65, 1<<63 - 1} {
		if r, code := ring.New(size); r != nil || code != api.Arg {
			t.Errorf("P10.1: New(%v): %v", size, code)
		}
	}
	for _, size := range []int{1, 2, 64} {
		r := made(t, size)
		counts(t, r, 0, 0, 0)
		for i := range size {
			if no, code := r.Put(of(i)); no != i || code != api.OK {
				t.Errorf("P10.1: Put: %v, %v", no, code)
			}
		}
		if no, code := r.Put(of(9)); no != 0 || code != api.Full {
			t.Errorf("P10.1: Put into a full ring of %v: %v, %v", size, no, code)
		}
		counts(t, r, size, 0, 0)
	}
}

func TestPut(t *testing.T) {
	r := made(t, 2)
	for _, d := range []api.Desc{{Op: 16}, {Req: -1}, {Len: 65537}, {Buf: api.Handle{Gen: 1 << 32}}, {Op: -1, Status: 5, Done: true}} {
		if no, code := r.Put(d); no != 0 || code != api.Arg {
			t.Errorf("P10.1: Put(%v): %v, %v", d, no, code)
		}
	}
	counts(t, r, 0, 0, 0)
	// How it came out is not for the one who puts it to say: neither a status without Done, nor one that may not be.
	for i, d := range []api.Desc{finished(0, 7), {Op: 3, Req: 1, Buf: api.Handle{Slot: 1, Gen: 2}, From: 4, Len: 5, Status: 999}} {
		if no, code := r.Put(d); no != i || code != api.OK {
			t.Errorf("P10.1: Put(%v): %v, %v", d, no, code)
		}
		if d, code := r.At(i); d != inRing(i) || code != api.OK {
			t.Errorf("P10.1: what is put: %v, %v", d, code)
		}
	}
	if _, code := r.Put(api.Desc{Op: 16}); code != api.Arg {
		t.Errorf("P10.1: Put of what may not be into a full ring: %v", code)
	}
}

func TestTakeFinishReap(t *testing.T) {
	r := made(t, 2)
	if no, d, code := r.Take(); no != 0 || d != (api.Desc{}) || code != api.Empty {
		t.Errorf("P10.1: Take of none: %v, %v, %v", no, d, code)
	}
	if d, code := r.Reap(); d != (api.Desc{}) || code != api.Empty {
		t.Errorf("P10.2: Reap of none: %v, %v", d, code)
	}
	r.Put(of(10))
	r.Put(of(11))
	is(t, "P10.1: Finish of one that isn't taken", r.Finish(0, 0), api.State)
	if d, code := r.Reap(); d != (api.Desc{}) || code != api.Busy {
		t.Errorf("P10.2: Reap of one that isn't taken: %v, %v", d, code)
	}
	take(t, r, 0, 10)
	take(t, r, 1, 11)
	if _, _, code := r.Take(); code != api.Empty {
		t.Errorf("P10.1: Take of no more: %v", code)
	}
	is(t, "P10.1: Finish with no status", r.Finish(1, 256), api.Arg)
	is(t, "P10.1: Finish with no status", r.Finish(1, -1), api.Arg)
	is(t, "P10.1: Finish of none, with no status", r.Finish(7, 256), api.Arg)
	is(t, "P10.1: Finish", r.Finish(1, 255), api.OK)
	is(t, "P10.1: Finish, again", r.Finish(1, 0), api.State)
	is(t, "P10.1: Finish, again, with no status", r.Finish(1, 999), api.Arg)
	if d, code := r.At(1); d != finished(11, 255) || code != api.OK {
		t.Errorf("P10.1: what is finished: %v, %v", d, code)
	}
	if _, code := r.Reap(); code != api.Busy {
		t.Errorf("P10.2: Reap, when only the second one is done: %v", code)
	}
	is(t, "P10.1: Finish", r.Finish(0, 0), api.OK)
	for _, want := range []api.Desc{finished(10, 0), finished(11, 255)} {
		if d, code := r.Reap(); d != want || code != api.OK {
			t.Errorf("P10.2: Reap: %v, %v", d, code)
		}
	}
	counts(t, r, 2, 2, 2)
	for _, no := range []int{0, 1, 2, -1, -1 << 63, 1<<63 - 1} {
		is(t, "P10.1: Finish of one that was reaped, or never put", r.Finish(no, 0), api.State)
	}
}

func TestAt(t *testing.T) {
	r := made(t, 3)
	for i := range 3 {
		r.Put(of(i))
	}
	r.Take()
	r.Finish(0, 1)
	r.Reap()
	for _, place := range []int{0, -1, 3, -1 << 63, 1<<63 - 1} {
		if d, code := r.At(place); d != (api.Desc{}) || code != api.NotFound {
			t.Errorf("P10.2: At(%v): %v, %v", place, d, code)
		}
	}
	if no, _ := r.Put(of(3)); no != 3 {
		t.Errorf("P10.1: the number of the fourth: %v", no)
	}
	for place, req := range []int{3, 1, 2} {
		if d, code := r.At(place); d != inRing(req) || code != api.OK {
			t.Errorf("P10.2: At(%v): %v, %v", place, d, code)
		}
	}
}

func TestReset(t *testing.T) {
	r := made(t, 3)
	if l := r.Reset(); len(l) != 0 {
		t.Errorf("P10.2: Reset of an empty ring: %v", l)
	}
	for i := range 3 {
		r.Put(of(i))
	}
	r.Take()
	r.Take()
	r.Finish(0, 1)
	r.Finish(1, 2)
	r.Reap()
	r.Put(of(3))
	l := r.Reset()
	if !slices.Equal(l, []api.Desc{finished(1, 2), inRing(2), inRing(3)}) {
		t.Errorf("P10.2: Reset: %v", l)
	}
	counts(t, r, 0, 0, 0)
	for place := range 3 {
		if _, code := r.At(place); code != api.NotFound {
			t.Errorf("P10.2: At(%v), when all is reset: %v", place, code)
		}
	}
	is(t, "P10.1: Finish, when all is reset", r.Finish(1, 0), api.State)
	if no, code := r.Put(of(8)); no != 0 || code != api.OK {
		t.Errorf("P10.1: Put, when all is reset: %v, %v", no, code)
	}
	take(t, r, 0, 8)
}

// lane is what lies in a ring, told by numbers, never overwritten.
type lane struct {
	all           []api.Desc
	taken, reaped int
}

func TestAgainstModel(t *testing.T) {
	r := rand.New(rand.NewSource(13))
	for size := 1; size <= 5; size++ {
		c := made(t, size)
		m := lane{}
		for step := range 4000 {
			switch r.Intn(4) {
			case 0:
				no, code := c.Put(of(step))
				full := len(m.all)-m.reaped == size
				if (code == api.Full) != full || (code == api.OK) == full || !full && no != len(m.all) {
					t.Fatalf("P10.1: Put: %v, %v", no, code)
				}
				if !full {
					m.all = append(m.all, inRing(step))
				}
			case 1:
				no, d, code := c.Take()
				if m.taken == len(m.all) {
					is(t, "P10.1: Take", code, api.Empty)
					break
				}
				if no != m.taken || d != m.all[no] || code != api.OK {
					t.Fatalf("P10.3: Take: %v, %v, %v", no, d, code)
				}
				m.taken++
			case 2:
				no := m.reaped - 1 + r.Intn(size+2)
				ok := no >= m.reaped && no < m.taken && !m.all[no].Done
				if code := c.Finish(no, step%256); (code == api.OK) != ok || !ok && code != api.State {
					t.Fatalf("P10.1: Finish(%v): %v", no, code)
				}
				if ok {
					m.all[no].Device, m.all[no].Done, m.all[no].Status = false, true, step%256
				}
			case 3:
				want, wantCode := api.Desc{}, api.Empty
				if m.reaped < len(m.all) {
					want, wantCode = m.all[m.reaped], api.OK
				}
				if wantCode == api.OK && !want.Done {
					want, wantCode = api.Desc{}, api.Busy
				}
				if d, code := c.Reap(); d != want || code != wantCode {
					t.Fatalf("P10.3: Reap: %v, %v, not %v, %v", d, code, want, wantCode)
				}
				if wantCode == api.OK {
					m.reaped++
				}
			}
			counts(t, c, len(m.all), m.taken, m.reaped)
			for no := m.reaped; no < len(m.all); no++ {
				if d, code := c.At(no % size); d != m.all[no] || code != api.OK {
					t.Fatalf("P10.2: At(%v): %v, %v", no%size, d, code)
				}
			}
		}
	}
}
