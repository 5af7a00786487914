package pool_test

import (
	"bytes"
	"math/rand"
	"testing"

	"linchpin/api"
	"linchpin/pool"
)

func made(t *testing.T, l ...api.Class) *pool.Pool {
	t.Helper()
	p, code := pool.New(l)
	if p == nil || code != api.OK {
		t.Fatalf("P7.1: New(%v): %v", l, code)
	}
	return p
}

func got(t *testing.T, p *pool.Pool, size int) api.Handle {
	t.Helper()
	h, code := p.Get(size)
	if code != api.OK {
		t.Fatalf("P7.1: Get(%v): %v", size, code)
	}
	return h
}

func is(t *testing.T, what string, code, want api.Code) {
	t.Helper()
	if code != want {
		t.Errorf("%v: %v, not %v", what, code, want)
	}
}

func owned(t *testing.T, p *pool.Pool, h api.Handle, owner, refs int) {
	t.Helper()
	if o, r, code := p.Owner(h); o != owner || r != refs || code != api.OK {
		t.Errorf("P7.2: Owner: %v, %v, %v, not %v, %v", o, r, code, owner, refs)
	}
}

func TestMay(t *testing.T) {
	var many []api.Class
	for i := range 9 {
		many = append(many, api.Class{Size: i + 1, Count: 1})
	}
	for _, c := range []struct {
		l  []api.Class
		ok bool
	}{
		{nil, false},
		{[]api.Class{}, false},
		{[]api.Class{{Size: 1, Count: 1}}, true},
		{[]api.Class{{Size: 65536, Count: 100}}, true},
		{[]api.Class{{Size: 0, Count: 1}}, false},
		{[]api.Class{{Size: -4, Count: 1}}, false},
		{[]api.Class{{Size: 65537, Count: 1}}, false},
		{[]api.Class{{Size: 4, Count: 0}}, false},
		{[]api.Class{{Size: 4, Count: -1}}, false},
		{[]api.Class{{Size: 4, Count: 101}}, false},
		{[]api.Class{{Size: 4, Count: 1}, {Size: 16, Count: 1}}, true},
		{[]api.Class{{Size: 4, Count: 1}, {Size: 4, Count: 1}}, false},
		{[]api.Class{{Size: 16, Count: 1}, {Size: 4, Count: 1}}, false},
		{[]api.Class{{Size: 4, Count: 1}, {Size: 16, Count: 0}}, false},
		{many[:8], true},
		{many, false},
	} {
		if ok := pool.May(c.l); ok != c.ok {
			t.Errorf("P7.1: May(%v): %v", c.l, ok)
		}
		if p, code := pool.New(c.l); (p != nil) != c.ok || (code == api.OK) != c.ok || !c.ok && code != api.Arg {
			t.Errorf("P7.1: New(%v): %v", c.l, code)
		}
	}
}

func TestExample(t *testing.T) {
	p := made(t, api.Class{Size: 4, Count: 1}, api.Class{Size: 16, Count: 1})
	if p.Count() != 2 || p.Free() != 2 {
		t.Errorf("P7.3: Count: %v; Free: %v", p.Count(), p.Free())
	}
	for no := range 2 {
		if h, code := p.Get(3); h != (api.Handle{Slot: no, Gen: 1}) || code != api.OK {
			t.Errorf("P7.1: Get(3): %v, %v", h, code)
		}
	}
	if h, code := p.Get(3); h != (api.Handle{}) || code != api.Empty {
		t.Errorf("P7.1: Get(3) of none: %v, %v", h, code)
	}
	if p.Count() != 2 || p.Free() != 0 {
		t.Errorf("P7.3: Count: %v; Free: %v", p.Count(), p.Free())
	}
}

func TestGet(t *testing.T) {
	p := made(t, api.Class{Size: 4, Count: 2}, api.Class{Size: 8, Count: 1}, api.Class{Size: 16, Count: 1})
	for _, size := range []int{-1 << 63, -1, 0, 17, 1<<63 - 1} {
		if h, code := p.Get(size); h != (api.Handle{}) || code != api.Arg {
			t.Errorf("P7.1: Get(%v): %v, %v", size, h, code)
		}
	}
	for _, c := range []struct{ size, no, has int }{{16, 3, 16}, {1, 0, 4}, {5, 2, 8}, {4, 1, 4}} {
		h := got(t, p, c.size)
		if h != (api.Handle{Slot: c.no, Gen: 1}) {
			t.Errorf("P7.1: Get(%v): %v", c.size, h)
		}
		if size, code := p.Size(h); size != c.has || code != api.OK {
			t.Errorf("P7.2: Size: %v, %v", size, code)
		}
		owned(t, p, h, api.Task, 1)
	}
	is(t, "P7.1: Drop", p.Drop(api.Handle{Slot: 2, Gen: 1}), api.OK)
	if _, code := p.Get(9); code != api.Empty {
		t.Errorf("P7.1: Get(9), when a lesser one is free: %v", code)
	}
	if h := got(t, p, 1); h != (api.Handle{Slot: 2, Gen: 2}) {
		t.Errorf("P7.1: Get(1), when the lesser ones are had: %v", h)
	}
}

func TestReferences(t *testing.T) {
	p := made(t, api.Class{Size: 4, Count: 1})
	h := got(t, p, 4)
	for n := 2; n <= 100; n++ {
		is(t, "P7.1: Share", p.Share(h), api.OK)
		owned(t, p, h, api.Task, n)
	}
	is(t, "P7.1: Share of one with 100", p.Share(h), api.Full)
	p.Give(h, api.Task, api.Ring)
	is(t, "P7.1: Share of the ring's", p.Share(h), api.Owner)
	is(t, "P7.1: Drop of the ring's", p.Drop(h), api.Owner)
	p.Give(h, api.Ring, api.Device)
	is(t, "P7.1: Share of the device's", p.Share(h), api.Owner)
	is(t, "P7.1: Drop of the device's", p.Drop(h), api.Owner)
	owned(t, p, h, api.Device, 100)
	p.Give(h, api.Device, api.Task)
	for n := 99; n >= 0; n-- {
		if p.Free() != 0 {
			t.Fatalf("P7.4: free with %v references", n+1)
		}
		is(t, "P7.1: Drop", p.Drop(h), api.OK)
	}
	if p.Free() != 1 {
		t.Error("P7.4: all dropped, and it isn't free")
	}
	is(t, "P7.1: Drop of a free one", p.Drop(h), api.Stale)
}

// stale looks whether every call says so of a handle.
func stale(t *testing.T, p *pool.Pool, h api.Handle) {
	t.Helper()
	is(t, "P7.1: Share", p.Share(h), api.Stale)
	is(t, "P7.1: Drop", p.Drop(h), api.Stale)
	is(t, "P7.2: Give", p.Give(h, api.Task, api.Ring), api.Stale)
	is(t, "P7.2: Give to nobody", p.Give(h, -1, api.Free), api.Stale)
	is(t, "P7.3: Write", p.Write(h, api.Task, 0, []byte{1}), api.Stale)
	is(t, "P7.3: Write by nobody", p.Write(h, 9, -1, make([]byte, 99)), api.Stale)
	if o, r, code := p.Owner(h); o != 0 || r != 0 || code != api.Stale {
		t.Errorf("P7.2: Owner: %v, %v, %v", o, r, code)
	}
	if n, code := p.Size(h); n != 0 || code != api.Stale {
		t.Errorf("P7.2: Size: %v, %v", n, code)
	}
	for _, n := range []int{0, 1, -1} {
		if b, code := p.Read(h, 0, n); len(b) != 0 || code != api.Stale {
			t.Errorf("P7.3: Read: %v, %v", b, code)
		}
	}
}

func TestStale(t *testing.T) {
	p := made(t, api.Class{Size: 4, Count: 2})
	h := got(t, p, 4)
	for _, c := range []api.Handle{{Slot: 0, Gen: 0}, {Slot: 0, Gen: 2}, {Slot: 1, Gen: 1}, {Slot: 2, Gen: 1}, {Slot: -1, Gen: 1}, {Slot: 1 << 62, Gen: 1}, {Slot: -1 << 63, Gen: 1}} {
		stale(t, p, c)
	}
	p.Drop(h)
	stale(t, p, h)
	stale(t, p, api.Handle{Slot: 0, Gen: 2})
	got(t, p, 4)
	stale(t, p, h)
}

func TestGive(t *testing.T) {
	p := made(t, api.Class{Size: 4, Count: 1})
	h := got(t, p, 4)
	owner := api.Task
	for from := -1; from <= 4; from++ {
		for to := -1; to <= 4; to++ {
			want := api.OK
			switch {
			case from < api.Task || from > api.Device || to < api.Task || to > api.Device || from == to:
				want = api.Arg
			case from != owner:
				want = api.Owner
			}
			is(t, "P7.2: Give", p.Give(h, from, to), want)
			if want == api.OK {
				owner = to
			}
			owned(t, p, h, owner, 1)
		}
	}
}

func TestWriteAndRead(t *testing.T) {
	p := made(t, api.Class{Size: 4, Count: 1})
	h := got(t, p, 2)
	for _, c := range []struct {
		by, at int
		b      []byte
		code   api.Code
	}{
		{api.Free, 0, nil, api.Arg},
		{4, 0, nil, api.Arg},
		{-1, 9, nil, api.Arg},
		{api.Ring, 0, []byte{1}, api.Owner},
		{api.Device, 9, []byte{1}, api.Owner},
		{api.Task, -1, nil, api.Arg},
		{api.Task, 5, nil, api.Arg},
		{api.Task, 1 << 62, nil, api.Arg},
		{api.Task, -1 << 63, []byte{1}, api.Arg},
		{api.Task, 4, []byte{1}, api.Arg},
		{api.Task, 2, []byte{1, 2, 3}, api.Arg},
		{api.Task, 0, []byte{1, 2, 3, 4, 5}, api.Arg},
		{api.Task, 4, nil, api.OK},
		{api.Task, 1, []byte{7, 8, 9}, api.OK},
		{api.Task, 0, []byte{6}, api.OK},
	} {
		is(t, "P7.3: Write", p.Write(h, c.by, c.at, c.b), c.code)
	}
	for _, c := range []struct {
		at, n int
		b     []byte
		code  api.Code
	}{
		{0, 4, []byte{6, 7, 8, 9}, api.OK},
		{1, 2, []byte{7, 8}, api.OK},
		{4, 0, nil, api.OK},
		{0, 0, nil, api.OK},
		{4, 1, nil, api.Arg},
		{5, 0, nil, api.Arg},
		{-1, 1, nil, api.Arg},
		{0, 5, nil, api.Arg},
		{0, -1, nil, api.Arg},
		{1, 1<<63 - 1, nil, api.Arg},
		{1<<63 - 1, 1, nil, api.Arg},
	} {
		if b, code := p.Read(h, c.at, c.n); !bytes.Equal(b, c.b) || code != c.code {
			t.Errorf("P7.3: Read(%v, %v): %v, %v", c.at, c.n, b, code)
		}
	}
}

func TestOnlyOwnersWrite(t *testing.T) {
	p := made(t, api.Class{Size: 1, Count: 1})
	h := got(t, p, 1)
	p.Write(h, api.Task, 0, []byte{1})
	p.Give(h, api.Task, api.Device)
	is(t, "P7.4: Write by a task", p.Write(h, api.Task, 0, []byte{2}), api.Owner)
	is(t, "P7.4: Write by the ring", p.Write(h, api.Ring, 0, []byte{2}), api.Owner)
	if b, _ := p.Read(h, 0, 1); !bytes.Equal(b, []byte{1}) {
		t.Errorf("P7.4: what isn't theirs is written: %v", b)
	}
	is(t, "P7.3: Write by the device", p.Write(h, api.Device, 0, []byte{3}), api.OK)
	if b, _ := p.Read(h, 0, 1); !bytes.Equal(b, []byte{3}) {
		t.Errorf("P7.3: Read: %v", b)
	}
}

func TestBytesAreCleared(t *testing.T) {
	p := made(t, api.Class{Size: 3, Count: 1})
	for range 2 {
		h := got(t, p, 1)
		if b, _ := p.Read(h, 0, 3); !bytes.Equal(b, []byte{0, 0, 0}) {
			t.Errorf("P7.1: a buffer that was got: %v", b)
		}
		p.Write(h, api.Task, 0, []byte{1, 2, 3})
		p.Drop(h)
	}
}

func TestNothingIsShared(t *testing.T) {
	classes := []api.Class{{Size: 2, Count: 2}}
	p := made(t, classes...)
	classes[0].Size = 9
	h, other := got(t, p, 2), got(t, p, 2)
	b := []byte{1, 2}
	p.Write(h, api.Task, 0, b)
	b[0] = 9
	read, _ := p.Read(h, 0, 2)
	read[1] = 9
	if again, _ := p.Read(h, 0, 2); !bytes.Equal(again, []byte{1, 2}) {
		t.Errorf("P7.3: Read: %v", again)
	}
	if b, _ := p.Read(other, 0, 2); !bytes.Equal(b, []byte{0, 0}) {
		t.Errorf("P7.3: another buffer: %v", b)
	}
}

// Whatever is done, a buffer is free just if it has no reference; all dropped, all are free.
func TestReferencesAndOwners(t *testing.T) {
	r := rand.New(rand.NewSource(9))
	p := made(t, api.Class{Size: 2, Count: 3}, api.Class{Size: 5, Count: 2})
	refs, owner := map[api.Handle]int{}, map[api.Handle]int{}
	var handles []api.Handle
	for range 4000 {
		h := api.Handle{}
		if len(handles) > 0 {
			h = handles[max(0, len(handles)-8)+r.Intn(min(8, len(handles)))]
		}
		live := refs[h] > 0
		switch r.Intn(4) {
		case 0:
			h, code := p.Get(1 + r.Intn(5))
			if code == api.OK {
				if refs[h] != 0 || owner[h] != 0 {
					t.Fatalf("P7.4: %v is got twice", h)
				}
				handles = append(handles, h)
				refs[h], owner[h] = 1, api.Task
			}
		case 1:
			if code := p.Share(h); (code == api.OK) != (live && owner[h] == api.Task && refs[h] < 100) {
				t.Fatalf("P7.1: Share: %v", code)
			} else if code == api.OK {
				refs[h]++
			}
		case 2:
			if code := p.Drop(h); (code == api.OK) != (live && owner[h] == api.Task) {
				t.Fatalf("P7.1: Drop: %v", code)
			} else if code == api.OK {
				refs[h]--
			}
		case 3:
			from, to := 1+r.Intn(3), 1+r.Intn(3)
			if code := p.Give(h, from, to); (code == api.OK) != (live && owner[h] == from && from != to) {
				t.Fatalf("P7.2: Give: %v", code)
			} else if code == api.OK {
				owner[h] = to
			}
		}
		used := 0
		for _, h := range handles[max(0, len(handles)-20):] {
			o, n, code := p.Owner(h)
			if n != refs[h] || (code == api.OK) != (refs[h] > 0) || code == api.OK && o != owner[h] {
				t.Fatalf("P7.4: Owner(%v): %v, %v, %v, not %v, %v", h, o, n, code, owner[h], refs[h])
			}
		}
		for _, n := range refs {
			if n > 0 {
				used++
			}
		}
		if p.Free() != p.Count()-used {
			t.Fatalf("P7.4: Free: %v, with %v used", p.Free(), used)
		}
	}
	for h, n := range refs {
		if n > 0 && owner[h] != api.Task {
			p.Give(h, owner[h], api.Task)
		}
		for range n {
			p.Drop(h)
		}
	}
	if p.Free() != p.Count() {
		t.Errorf("P7.4: all dropped: %v of %v are free", p.Free(), p.Count())
	}
}
