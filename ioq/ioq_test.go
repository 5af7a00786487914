package ioq_test

import (
	"bytes"
	"cmp"
	"math/rand"
	"slices"
	"testing"

	"linchpin/api"
	"linchpin/ioq"
	"linchpin/order"
	"linchpin/pool"
)

const (
	top     = 1<<64 - 1
	done    = 1
	aborted = 2
)

// made tells a device with a ring of a size, and a cost of 5, on a pool of n buffers of 8 bytes, and their handles.
func made(t *testing.T, size, n int) (*ioq.Device, *pool.Pool, []api.Handle) {
	t.Helper()
	p, code := pool.New([]api.Class{{Size: 8, Count: n}})
	if code != api.OK {
		t.Fatal(code)
	}
	d, code := ioq.New(p, size, 5)
	if d == nil || code != api.OK {
		t.Fatalf("P20.1: New: %v", code)
	}
	var all []api.Handle
	for range n {
		h, _ := p.Get(8)
		all = append(all, h)
	}
	return d, p, all
}

// req is a request for all 8 bytes of a buffer.
func req(id int, dead uint64, track int, h api.Handle) api.Req {
	return api.Req{ID: id, Op: 3, Dead: dead, Track: track, Piece: api.Piece{Buf: h, Len: 8}}
}

func is(t *testing.T, what string, code, want api.Code) {
	t.Helper()
	if code != want {
		t.Errorf("%v: %v, not %v", what, code, want)
	}
}

func owned(t *testing.T, p *pool.Pool, h api.Handle, want int) {
	t.Helper()
	if owner, _, _ := p.Owner(h); owner != want {
		t.Errorf("P20.3: %v is %v's, not %v's", h, owner, want)
	}
}

func counts(t *testing.T, d *ioq.Device, waiting, inRing int) {
	t.Helper()
	if w, r := d.Counts(); w != waiting || r != inRing {
		t.Errorf("P20.3: Counts: %v, %v, not %v, %v", w, r, waiting, inRing)
	}
}

func started(t *testing.T, d *ioq.Device, want ...int) {
	t.Helper()
	if ids := d.Start(); !slices.Equal(ids, want) {
		t.Errorf("P20.2: Start: %v, not %v", ids, want)
	}
}

func took(t *testing.T, d *ioq.Device, no int, r api.Req) {
	t.Helper()
	want := api.Desc{Op: r.Op, Req: r.ID, Buf: r.Piece.Buf, From: r.Piece.From, Len: r.Piece.Len, Device: true}
	if n, got, code := d.Take(); n != no || got != want || code != api.OK {
		t.Errorf("P20.2: Take: %v, %v, %v, not %v, %v", n, got, code, no, want)
	}
}

func reaped(t *testing.T, d *ioq.Device, want int, wantCode api.Code) {
	t.Helper()
	if id, code := d.Reap(); id != want || code != wantCode {
		t.Errorf("P20.3: Reap: %v, %v, not %v, %v", id, code, want, wantCode)
	}
}

func goTo(t *testing.T, d *ioq.Device, now uint64, want ...api.Fate) {
	t.Helper()
	if fates, code := d.Go(now); !slices.Equal(fates, want) || code != api.OK {
		t.Errorf("P20.3: Go(%v): %v, %v, not %v", now, fates, code, want)
	}
}

func holds(t *testing.T, p *pool.Pool, h api.Handle, want ...byte) {
	t.Helper()
	if b, code := p.Read(h, 0, 8); !bytes.Equal(b, want) || code != api.OK {
		t.Errorf("P20.2: %v holds %v, not %v", h, b, want)
	}
}

func TestNew(t *testing.T) {
	p, _ := pool.New([]api.Class{{Size: 8, Count: 1}})
	for _, c := range []struct {
		size int
		cost uint64
		ok   bool
	}{{1, 1, true}, {64, 1000, true}, {0, 1, false}, {65, 1, false}, {-1, 1, false}, {1, 0, false}, {1, 1001, false}, {1, top, false}} {
		if d, code := ioq.New(p, c.size, c.cost); (d != nil) != c.ok || (code == api.OK) != c.ok || !c.ok && code != api.Arg {
			t.Errorf("P20.1: New(%v, %v): %v", c.size, c.cost, code)
		}
	}
}

func TestExample(t *testing.T) {
	d, p, h := made(t, 2, 1)
	r := req(7, 100, 3, h[0])
	is(t, "P20.1: Submit", d.Submit(r), api.OK)
	owned(t, p, h[0], api.Ring)
	counts(t, d, 1, 0)
	started(t, d, 7)
	owned(t, p, h[0], api.Ring)
	counts(t, d, 0, 1)
	reaped(t, d, 0, api.Busy)
	took(t, d, 0, r)
	owned(t, p, h[0], api.Device)
	is(t, "P20.2: Write", d.Write(0, 2, []byte{1, 2}), api.OK)
	is(t, "P20.2: Finish", d.Finish(0, 9, false), api.OK)
	owned(t, p, h[0], api.Device)
	reaped(t, d, 7, api.OK)
	owned(t, p, h[0], api.Task)
	counts(t, d, 0, 0)
	holds(t, p, h[0], 0, 0, 1, 2, 0, 0, 0, 0)
	goTo(t, d, 1, api.Fate{ID: 7, Kind: done, Why: 9})
	goTo(t, d, 200)
}

func TestSubmitCodes(t *testing.T) {
	d, p, h := made(t, 2, 3)
	old := h[2]
	p.Drop(old)
	goTo(t, d, 10)
	for i, change := range []func(r *api.Req){
		func(r *api.Req) { r.Piece.Len = 0 },
		func(r *api.Req) { r.Piece.Len = 9 },
		func(r *api.Req) { r.Piece.Len = -1 },
		func(r *api.Req) { r.Piece.From = 1 },
		func(r *api.Req) { r.Piece.From = -1 },
		func(r *api.Req) { r.Piece.Buf = old },
		func(r *api.Req) { r.Piece.Buf = api.Handle{Slot: 9, Gen: 1} },
		func(r *api.Req) { r.Piece.Buf = api.Handle{} },
		func(r *api.Req) { r.Op = -1 },
		func(r *api.Req) { r.Op = 16 },
		func(r *api.Req) { r.ID = -1 },
		func(r *api.Req) { r.ID = 65536 },
		func(r *api.Req) { r.Track = -1 },
		func(r *api.Req) { r.Track = 1<<20 + 1 },
		func(r *api.Req) { r.Dead = api.Last },
		func(r *api.Req) { r.Dead = top },
		func(r *api.Req) { r.Dead, r.Op = 3, 16 },
	} {
		r := req(7, 100, 3, h[0])
		change(&r)
		if code := d.Submit(r); code != api.Arg {
			t.Errorf("P20.1: Submit of %v: %v", i, code)
		}
	}
	is(t, "P20.1: Submit, too late", d.Submit(req(7, 15, 3, h[0])), api.Denied)
	is(t, "P20.1: Submit, much too late", d.Submit(req(7, 3, 3, h[0])), api.Denied)
	owned(t, p, h[0], api.Task)
	counts(t, d, 0, 0)
	is(t, "P20.1: Submit", d.Submit(req(7, 16, 3, h[0])), api.OK)
	is(t, "P20.1: Submit with the ring's", d.Submit(req(8, 100, 3, h[0])), api.Owner)
	is(t, "P20.1: Submit with the ring's, again", d.Submit(req(7, 3, 3, h[0])), api.Owner)
	is(t, "P20.1: Submit, again", d.Submit(req(7, 100, 3, h[1])), api.Exists)
	owned(t, p, h[1], api.Task)
	counts(t, d, 1, 0)
	started(t, d, 7)
	is(t, "P20.1: Submit of one in the ring", d.Submit(req(7, 3, 3, h[1])), api.Exists)
	d.Cancel(7)
	is(t, "P20.1: Submit of one that is void in the ring", d.Submit(req(7, 100, 3, h[1])), api.Exists)
	d.Take()
	d.Finish(0, 0, false)
	is(t, "P20.1: Submit of one that is void, and done", d.Submit(req(7, 100, 3, h[1])), api.Exists)
	d.Reap()
	is(t, "P20.1: Submit of one that is reaped", d.Submit(req(7, 100, 3, h[1])), api.OK)
}

func TestSubmitEdges(t *testing.T) {
	p, _ := pool.New([]api.Class{{Size: 65536, Count: 2}})
	d, _ := ioq.New(p, 2, 1)
	first, _ := p.Get(65536)
	last, _ := p.Get(65536)
	is(t, "P20.1: Submit of the least", d.Submit(api.Req{Dead: 2, Piece: api.Piece{Buf: first, Len: 1}}), api.OK)
	greatest := api.Req{ID: 65535, Op: 15, Dead: api.Last - 1, Track: 1 << 20, Piece: api.Piece{Buf: last, From: 65535, Len: 1}}
	is(t, "P20.1: Submit of the greatest", d.Submit(greatest), api.OK)
	started(t, d, 0, 65535)
	d.Take()
	took(t, d, 1, greatest)
}

func TestFull(t *testing.T) {
	d, p, h := made(t, 3, 65)
	for id := range 64 {
		is(t, "P20.1: Submit", d.Submit(req(id, 1000, id, h[id])), api.OK)
	}
	is(t, "P20.1: Submit of the 65th", d.Submit(req(64, 1000, 0, h[64])), api.Full)
	is(t, "P20.1: Submit of the 65th, too late", d.Submit(req(64, 1, 0, h[64])), api.Full)
	is(t, "P20.1: Submit of one that is there", d.Submit(req(63, 1000, 0, h[64])), api.Exists)
	owned(t, p, h[64], api.Task)
	counts(t, d, 64, 0)
	started(t, d, 0, 1, 2)
	started(t, d)
	counts(t, d, 61, 3)
	is(t, "P20.1: Submit of the 65th", d.Submit(req(64, 1000, 0, h[64])), api.Full)
	is(t, "P20.3: Cancel", d.Cancel(40), api.OK)
	counts(t, d, 60, 3)
	is(t, "P20.1: Submit", d.Submit(req(64, 1000, 0, h[64])), api.OK)
}

func TestStartInOrder(t *testing.T) {
	d, _, h := made(t, 4, 6)
	d.Submit(req(1, 100, 7, h[0]))
	d.Submit(req(2, 100, 3, h[1]))
	d.Submit(req(3, 50, 9, h[2]))
	d.Submit(req(4, 100, 12, h[3]))
	d.Submit(req(5, 100, 10, h[4]))
	started(t, d, 3, 5, 4, 1)
	counts(t, d, 1, 4)
	took(t, d, 0, req(3, 50, 9, h[2]))
	took(t, d, 1, req(5, 100, 10, h[4]))
	d.Finish(0, 0, false)
	started(t, d)
	reaped(t, d, 3, api.OK)
	started(t, d, 2)
	counts(t, d, 0, 4)
}

func TestWrite(t *testing.T) {
	d, p, h := made(t, 2, 1)
	r := req(7, 100, 3, h[0])
	r.Piece = api.Piece{Buf: h[0], From: 2, Len: 4}
	d.Submit(r)
	d.Start()
	is(t, "P20.2: Write of one that isn't taken", d.Write(0, 0, []byte{1}), api.State)
	took(t, d, 0, r)
	for _, c := range []struct {
		no, at int
		b      []byte
		code   api.Code
	}{
		{1, 0, nil, api.State}, {-1, 0, nil, api.State}, {1 << 62, 9, nil, api.State}, {-1 << 63, 0, nil, api.State},
		{0, -1, nil, api.Arg}, {0, 5, nil, api.Arg}, {0, 1 << 62, nil, api.Arg}, {0, -1 << 63, []byte{1}, api.Arg},
		{0, 4, []byte{1}, api.Arg}, {0, 1, []byte{1, 2, 3, 4}, api.Arg}, {0, 0, make([]byte, 5), api.Arg},
		{0, 4, nil, api.OK}, {0, 0, nil, api.OK}, {0, 0, []byte{1, 2, 3, 4}, api.OK}, {0, 3, []byte{9}, api.OK},
	} {
		is(t, "P20.2: Write", d.Write(c.no, c.at, c.b), c.code)
	}
	holds(t, p, h[0], 0, 0, 1, 2, 3, 9, 0, 0)
	d.Finish(0, 0, false)
	is(t, "P20.2: Write of one that is finished", d.Write(0, 0, []byte{7}), api.State)
	is(t, "P20.2: Write of one that is finished, too far", d.Write(0, 9, []byte{7}), api.State)
	d.Reap()
	is(t, "P20.2: Write of one that is reaped", d.Write(0, 0, []byte{7}), api.State)
	holds(t, p, h[0], 0, 0, 1, 2, 3, 9, 0, 0)
}

func TestFinish(t *testing.T) {
	d, _, h := made(t, 2, 2)
	is(t, "P20.2: Finish of none", d.Finish(0, 0, false), api.State)
	d.Submit(req(7, 100, 3, h[0]))
	d.Submit(req(8, 100, 4, h[1]))
	d.Start()
	is(t, "P20.2: Finish of one that isn't taken", d.Finish(0, 0, true), api.State)
	d.Take()
	d.Take()
	if no, next, code := d.Take(); no != 0 || next != (api.Desc{}) || code != api.Empty {
		t.Errorf("P20.2: Take of none: %v, %v, %v", no, next, code)
	}
	is(t, "P20.2: Finish with no status", d.Finish(0, 256, true), api.Arg)
	is(t, "P20.2: Finish with no status", d.Finish(5, -1, true), api.Arg)
	is(t, "P20.2: Finish", d.Finish(1, 4, false), api.OK)
	reaped(t, d, 0, api.Busy)
	is(t, "P20.2: Finish, bad", d.Finish(0, 3, true), api.OK)
	is(t, "P20.2: Finish, again", d.Finish(0, 5, false), api.State)
	reaped(t, d, 7, api.OK)
	reaped(t, d, 8, api.OK)
	reaped(t, d, 0, api.Empty)
	goTo(t, d, 0, api.Fate{ID: 7, Kind: aborted, Why: 2}, api.Fate{ID: 8, Kind: done, Why: 4})
}

// Example 9 of the whole: what the device writes behind an outcome comes to nothing.
func TestTheDeviceNeverAnswers(t *testing.T) {
	d, p, h := made(t, 2, 1)
	r := req(7, 100, 3, h[0])
	d.Submit(r)
	d.Start()
	d.Take()
	d.Write(0, 0, []byte{1})
	goTo(t, d, 94)
	owned(t, p, h[0], api.Device)
	goTo(t, d, 95, api.Fate{ID: 7, Kind: aborted, Why: 1})
	owned(t, p, h[0], api.Task)
	is(t, "P20.4: Write, late", d.Write(0, 1, []byte{2}), api.State)
	holds(t, p, h[0], 1, 0, 0, 0, 0, 0, 0, 0)
	is(t, "P20.3: Cancel, late", d.Cancel(7), api.NotFound)
	counts(t, d, 0, 1)
	is(t, "P20.2: Finish, late", d.Finish(0, 0, false), api.OK)
	reaped(t, d, 7, api.OK)
	counts(t, d, 0, 0)
	goTo(t, d, 200)
	owned(t, p, h[0], api.Task)
}

func TestCancel(t *testing.T) {
	d, p, h := made(t, 1, 3)
	for i := range 3 {
		d.Submit(req(i, 100, i, h[i]))
	}
	d.Start()
	for _, id := range []int{-1, 3, 1 << 62, -1 << 63} {
		is(t, "P20.3: Cancel of none", d.Cancel(id), api.NotFound)
	}
	is(t, "P20.3: Cancel of one that waits", d.Cancel(1), api.OK)
	owned(t, p, h[1], api.Task)
	counts(t, d, 1, 1)
	is(t, "P20.3: Cancel of one in the ring", d.Cancel(0), api.OK)
	owned(t, p, h[0], api.Task)
	counts(t, d, 1, 1)
	is(t, "P20.3: Cancel, again", d.Cancel(0), api.NotFound)
	// A void descriptor is taken, but brings the device no buffer.
	took(t, d, 0, req(0, 100, 0, h[0]))
	owned(t, p, h[0], api.Task)
	is(t, "P20.2: Write of a void one", d.Write(0, 0, []byte{1}), api.State)
	is(t, "P20.2: Finish of a void one", d.Finish(0, 5, true), api.OK)
	reaped(t, d, 0, api.OK)
	goTo(t, d, 1, api.Fate{ID: 1, Kind: aborted, Why: 3}, api.Fate{ID: 0, Kind: aborted, Why: 3})
	started(t, d, 2)
}

func TestTimeComesWhileItWaits(t *testing.T) {
	d, p, h := made(t, 1, 3)
	for i := range 3 {
		d.Submit(req(i, uint64(100-i), i, h[i]))
	}
	started(t, d, 2)
	goTo(t, d, 95, api.Fate{ID: 2, Kind: aborted, Why: 1}, api.Fate{ID: 1, Kind: aborted, Why: 1}, api.Fate{ID: 0, Kind: aborted, Why: 1})
	counts(t, d, 0, 1)
	for i := range 3 {
		owned(t, p, h[i], api.Task)
	}
	for _, c := range []struct {
		now  uint64
		code api.Code
	}{{94, api.Arg}, {api.Last, api.Horizon}, {top, api.Horizon}} {
		if fates, code := d.Go(c.now); len(fates) != 0 || code != c.code {
			t.Errorf("P20.3: Go(%v): %v, %v", c.now, fates, code)
		}
	}
}

func TestLetInAnew(t *testing.T) {
	d, p, h := made(t, 2, 2)
	d.Submit(req(7, 100, 3, h[0]))
	d.Cancel(7)
	is(t, "P20.1: Submit anew", d.Submit(req(7, 200, 3, h[1])), api.OK)
	goTo(t, d, 10, api.Fate{ID: 7, Kind: aborted, Why: 3})
	owned(t, p, h[1], api.Ring)
	counts(t, d, 1, 0)
	d.Cancel(7)
	d.Submit(req(7, 50, 3, h[1]))
	goTo(t, d, 45, api.Fate{ID: 7, Kind: aborted, Why: 3}, api.Fate{ID: 7, Kind: aborted, Why: 1})
	owned(t, p, h[1], api.Task)
	counts(t, d, 0, 0)
}

// model is a device as plainly as can be: all requests that were ever let in, each where it is.
type model struct {
	size   int
	cost   uint64
	now    uint64
	queue  *order.Queue
	open   []*asked
	ring   []*asked
	gone   int // how many were reaped
	taken  int // how many of the ring's the device took
	untold []api.Fate
}

type asked struct {
	api.Req
	inRing, taken, finished, bad, void bool
	status                             int
}

func (m *model) find(id int) *asked {
	for _, a := range m.open {
		if a.ID == id {
			return a
		}
	}
	return nil
}

func (m *model) at(no int) *asked {
	if no < m.gone || no >= m.gone+len(m.ring) {
		return nil
	}
	return m.ring[no-m.gone]
}

func (m *model) out(a *asked, kind, why int) {
	a.void = true
	m.open = slices.DeleteFunc(m.open, func(o *asked) bool { return o == a })
	if !a.inRing {
		m.queue.Drop(a.ID)
	}
	m.untold = append(m.untold, api.Fate{ID: a.ID, Kind: kind, Why: why})
}

func (m *model) submit(r api.Req, free bool) api.Code {
	switch {
	case !free:
		return api.Owner
	case slices.ContainsFunc(m.ring, func(a *asked) bool { return a.ID == r.ID }), m.find(r.ID) != nil:
		return api.Exists
	case len(m.open) == 64:
		return api.Full
	case r.Dead <= m.now+m.cost:
		return api.Denied
	}
	m.open = append(m.open, &asked{Req: r})
	m.queue.Add(api.Want{ID: r.ID, Dead: r.Dead, Track: r.Track})
	return api.OK
}

func (m *model) start() []int {
	var ids []int
	for len(m.ring) < m.size {
		w, code := m.queue.Take()
		if code != api.OK {
			break
		}
		a := m.find(w.ID)
		a.inRing = true
		m.ring = append(m.ring, a)
		ids = append(ids, w.ID)
	}
	return ids
}

func (m *model) goTo(now uint64) []api.Fate {
	m.now = now
	late := slices.DeleteFunc(slices.Clone(m.open), func(a *asked) bool { return a.Dead-m.cost > now })
	slices.SortFunc(late, func(a, b *asked) int { return cmp.Or(cmp.Compare(a.Dead, b.Dead), a.ID-b.ID) })
	for _, a := range late {
		m.out(a, aborted, 1)
	}
	fates := m.untold
	m.untold = nil
	return fates
}

// owners tells whose each buffer is.
func (m *model) owners(h []api.Handle) []int {
	l := slices.Repeat([]int{api.Task}, len(h))
	for _, a := range m.open {
		at := slices.Index(h, a.Piece.Buf)
		l[at] = api.Ring
		if a.taken {
			l[at] = api.Device
		}
	}
	return l
}

func TestAgainstModel(t *testing.T) {
	r := rand.New(rand.NewSource(28))
	for round := range 80 {
		size := 1 + r.Intn(4)
		d, p, h := made(t, size, 8)
		m := &model{size: size, cost: 5, queue: order.New()}
		for step := range 500 {
			what := r.Intn(9)
			no := m.gone + r.Intn(size+1)
			a := m.at(no)
			switch what {
			case 0, 1:
				buf := r.Intn(8)
				q := req(r.Intn(12), m.now+uint64(r.Intn(60)), r.Intn(9), h[buf])
				is(t, "P20.1: Submit", d.Submit(q), m.submit(q, m.owners(h)[buf] == api.Task))
			case 2:
				started(t, d, m.start()...)
			case 3:
				if m.taken == len(m.ring) {
					_, _, code := d.Take()
					is(t, "P20.2: Take", code, api.Empty)
					break
				}
				next := m.ring[m.taken]
				next.taken = true
				took(t, d, m.gone+m.taken, next.Req)
				m.taken++
			case 4:
				b := []byte{byte(step)}
				if a == nil || !a.taken || a.finished || a.void {
					is(t, "P20.2: Write", d.Write(no, 0, b), api.State)
					break
				}
				is(t, "P20.2: Write", d.Write(no, step%8, b), api.OK)
				if got, _ := p.Read(a.Piece.Buf, step%8, 1); !bytes.Equal(got, b) {
					t.Errorf("P20.2: %v is written, %v there", b, got)
				}
			case 5:
				want, status, bad := api.State, r.Intn(256), r.Intn(3) == 0
				if a != nil && a.taken && !a.finished {
					want = api.OK
					a.finished, a.status, a.bad = true, status, bad
				}
				is(t, "P20.2: Finish", d.Finish(no, status, bad), want)
			case 6:
				if len(m.ring) == 0 {
					reaped(t, d, 0, api.Empty)
					break
				}
				first := m.ring[0]
				if !first.finished {
					reaped(t, d, 0, api.Busy)
					break
				}
				reaped(t, d, first.ID, api.OK)
				if !first.void && first.bad {
					m.out(first, aborted, 2)
				} else if !first.void {
					m.out(first, done, first.status)
				}
				m.ring = m.ring[1:]
				m.gone++
				m.taken--
			case 7:
				id, want := r.Intn(12), api.NotFound
				if a := m.find(id); a != nil {
					want = api.OK
					m.out(a, aborted, 3)
				}
				is(t, "P20.3: Cancel", d.Cancel(id), want)
			case 8:
				now := m.now + uint64(r.Intn(8))
				goTo(t, d, now, m.goTo(now)...)
			}
			counts(t, d, len(m.queue.All()), len(m.ring))
			for i, owner := range m.owners(h) {
				owned(t, p, h[i], owner)
			}
			if t.Failed() {
				t.Fatalf("round %v, step %v: %v", round, step, what)
			}
		}
		goTo(t, d, m.now+1000, m.goTo(m.now+1000)...)
		for i := range h {
			owned(t, p, h[i], api.Task)
			is(t, "P20.4: Drop, when all have come out", p.Drop(h[i]), api.OK)
		}
		if p.Free() != p.Count() {
			t.Errorf("P20.4: %v of %v are free", p.Free(), p.Count())
		}
	}
}
