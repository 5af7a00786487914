package engine_test

import (
	"bytes"
	"math/rand"
	"slices"
	"testing"

	"linchpin/api"
	"linchpin/bus"
	"linchpin/engine"
	"linchpin/ioq"
	"linchpin/pool"
	"linchpin/share"
)

var whole = api.Share{Budget: 10, Period: 10}

// none is what an engine without a descriptor tells.
var none = api.Move{No: -1}

// setting is an engine, and what it is on.
type setting struct {
	pool   *pool.Pool
	device *ioq.Device
	bus    *bus.Bus
	engine *engine.Engine
	bufs   []api.Handle
}

// made tells an engine that is master 1 of these, with four buffers of 8 bytes, and a ring of 2.
func made(t *testing.T, masters ...api.Master) *setting {
	t.Helper()
	s := &setting{}
	s.pool, _ = pool.New([]api.Class{{Size: 8, Count: 4}})
	s.device, _ = ioq.New(s.pool, 2, 5)
	s.bus, _ = bus.New(masters, 0)
	for range 4 {
		h, _ := s.pool.Get(8)
		s.bufs = append(s.bufs, h)
	}
	e, code := engine.New(s.device, s.bus, 1)
	if e == nil || code != api.OK {
		t.Fatalf("P24.1: New: %v", code)
	}
	s.engine = e
	return s
}

func (s *setting) submit(t *testing.T, id, buf, from, n int, dead uint64) {
	t.Helper()
	code := s.device.Submit(api.Req{ID: id, Dead: dead, Piece: api.Piece{Buf: s.bufs[buf], From: from, Len: n}})
	if code != api.OK {
		t.Fatal(code)
	}
}

func (s *setting) slot(t *testing.T, now uint64, data byte, want int, wantCode api.Code, others ...int) {
	t.Helper()
	if who, code := s.engine.Slot(now, others, data); who != want || code != wantCode {
		t.Errorf("P24.1: Slot(%v, %v): %v, %v, not %v, %v", now, others, who, code, want, wantCode)
	}
}

func (s *setting) state(t *testing.T, want api.Move) {
	t.Helper()
	if m := s.engine.State(); m != want {
		t.Errorf("P24.1: State: %v, not %v", m, want)
	}
}

func (s *setting) holds(t *testing.T, buf int, want ...byte) {
	t.Helper()
	if b, _ := s.pool.Read(s.bufs[buf], 0, 8); !bytes.Equal(b, want) {
		t.Errorf("P24.1: buffer %v holds %v, not %v", buf, b, want)
	}
}

func (s *setting) comes(t *testing.T, now uint64, want ...api.Fate) {
	t.Helper()
	for {
		if _, code := s.device.Reap(); code != api.OK {
			break
		}
	}
	if fates, code := s.device.Go(now); !slices.Equal(fates, want) || code != api.OK {
		t.Errorf("P24.1: outcomes at %v: %v, %v, not %v", now, fates, code, want)
	}
}

func TestNew(t *testing.T) {
	s := made(t, api.Master{Share: whole}, api.Master{Share: whole})
	for _, c := range []struct {
		id int
		ok bool
	}{{0, true}, {1, true}, {2, true}, {99, true}, {-1, false}, {-1 << 63, false}} {
		if e, code := engine.New(s.device, s.bus, c.id); (e != nil) != c.ok || (code == api.OK) != c.ok || !c.ok && code != api.Arg {
			t.Errorf("P24.1: New(%v): %v", c.id, code)
		}
	}
	s.state(t, none)
	if s.engine.Quiet() {
		t.Error("P24.2: Quiet of a new engine")
	}
}

func TestExample(t *testing.T) {
	s := made(t, api.Master{Share: whole}, api.Master{Share: whole})
	s.submit(t, 7, 0, 3, 2, 100)
	s.slot(t, 0, 5, 0, api.Empty)
	s.device.Start()
	s.state(t, none)
	s.slot(t, 1, 5, 1, api.OK)
	s.state(t, api.Move{No: 0, At: 1, Size: 2})
	s.slot(t, 2, 6, 1, api.OK)
	s.state(t, none)
	s.holds(t, 0, 0, 0, 0, 5, 6, 0, 0, 0)
	s.slot(t, 3, 7, 0, api.Empty)
	s.holds(t, 0, 0, 0, 0, 5, 6, 0, 0, 0)
	s.comes(t, 3, api.Fate{ID: 7, Kind: 1, Why: 0})
}

func TestOthers(t *testing.T) {
	s := made(t, api.Master{Share: whole}, api.Master{Prio: 1, Share: whole}, api.Master{Prio: 2, Share: whole})
	s.slot(t, 0, 5, 2, api.OK, 2)
	s.submit(t, 7, 0, 0, 2, 100)
	s.device.Start()
	s.slot(t, 1, 5, 0, api.OK, 0, 2)
	s.state(t, api.Move{No: 0, At: 0, Size: 2})
	s.slot(t, 2, 5, 1, api.OK, 2)
	s.state(t, api.Move{No: 0, At: 1, Size: 2})
	if n := s.bus.Stalls(1); n != 1 {
		t.Errorf("P24.1: the engine was stalled %v times", n)
	}
	others := []int{2, 0, 9}[:1]
	if who, code := s.engine.Slot(3, others, 6); who != 1 || code != api.OK || others[:2][1] != 0 {
		t.Errorf("P24.1: Slot: %v, %v; what was handed in: %v", who, code, others[:2])
	}
	s.state(t, none)
}

// The engine's own number among the others is a want as theirs are; there is nothing to write.
func TestTheOthersNameTheEngine(t *testing.T) {
	s := made(t, api.Master{Share: whole}, api.Master{Share: whole})
	s.slot(t, 0, 5, 1, api.OK, 1)
	s.state(t, none)
	s.submit(t, 7, 0, 0, 2, 100)
	s.device.Start()
	s.slot(t, 1, 5, 1, api.OK, 1)
	s.state(t, api.Move{No: 0, At: 1, Size: 2})
}

func TestCodes(t *testing.T) {
	s := made(t, api.Master{Share: whole}, api.Master{Share: api.Share{Budget: 1, Period: 10}})
	s.submit(t, 7, 0, 0, 3, 100)
	s.device.Start()
	// What was taken stays taken, whatever the bus says.
	s.slot(t, 5, 5, 0, api.Arg, 2)
	s.state(t, api.Move{No: 0, At: 0, Size: 3})
	s.slot(t, api.Last, 5, 0, api.Horizon)
	s.slot(t, 5, 5, 1, api.OK)
	s.slot(t, 5, 5, 0, api.Arg)
	s.slot(t, 4, 5, 0, api.Arg)
	s.slot(t, 6, 5, 0, api.Empty)
	s.state(t, api.Move{No: 0, At: 1, Size: 3})
	s.holds(t, 0, 5, 0, 0, 0, 0, 0, 0, 0)
}

func TestNoMaster(t *testing.T) {
	s := made(t, api.Master{Share: whole})
	s.slot(t, 0, 5, 0, api.OK, 0)
	s.submit(t, 7, 0, 0, 3, 100)
	s.device.Start()
	s.slot(t, 1, 5, 0, api.Arg, 0)
	s.slot(t, 2, 5, 0, api.Arg)
	s.state(t, api.Move{No: 0, At: 0, Size: 3})
}

func TestTheRequestHasComeOut(t *testing.T) {
	s := made(t, api.Master{Share: whole}, api.Master{Share: whole})
	s.submit(t, 7, 0, 0, 3, 100)
	s.submit(t, 8, 1, 0, 2, 100)
	s.device.Start()
	s.slot(t, 0, 5, 1, api.OK)
	s.device.Cancel(7)
	s.state(t, api.Move{No: 0, At: 1, Size: 3})
	s.slot(t, 1, 6, 1, api.OK)
	s.state(t, none)
	s.holds(t, 0, 5, 0, 0, 0, 0, 0, 0, 0)
	if code := s.device.Finish(0, 0, false); code != api.State {
		t.Errorf("P24.1: what may not be written isn't finished: %v", code)
	}
	s.slot(t, 2, 7, 1, api.OK)
	s.state(t, api.Move{No: 1, At: 1, Size: 2})
	s.comes(t, 3, api.Fate{ID: 7, Kind: 2, Why: 3})
	s.slot(t, 3, 8, 1, api.OK)
	s.holds(t, 1, 7, 8, 0, 0, 0, 0, 0, 0)
	s.comes(t, 4, api.Fate{ID: 8, Kind: 1})
}

func TestQuiet(t *testing.T) {
	s := made(t, api.Master{Share: whole}, api.Master{Share: whole})
	s.submit(t, 7, 0, 0, 3, 100)
	s.device.Start()
	if s.engine.Quiet() {
		t.Error("P24.2: Quiet ahead of a descriptor")
	}
	s.slot(t, 0, 5, 1, api.OK)
	if !s.engine.Quiet() {
		t.Error("P24.2: Quiet with a descriptor")
	}
	s.state(t, none)
	if s.engine.Quiet() {
		t.Error("P24.2: Quiet, again")
	}
	s.comes(t, 1, api.Fate{ID: 7, Kind: 2, Why: 2})
	s.slot(t, 1, 5, 0, api.Empty)
	s.holds(t, 0, 5, 0, 0, 0, 0, 0, 0, 0)
}

// byHand does what an engine does, by the chapter's words, on a device and a bus of its own.
type byHand struct {
	device *ioq.Device
	bus    *bus.Bus
	move   api.Move
}

func (b *byHand) slot(now uint64, others []int, data byte) (int, api.Code) {
	if b.move == none {
		if no, d, code := b.device.Take(); code == api.OK {
			b.move = api.Move{No: no, Size: d.Len}
		}
	}
	wants := slices.Clone(others)
	if b.move != none {
		wants = append(wants, 1)
	}
	who, code := b.bus.Slot(now, wants)
	if code != api.OK || who != 1 || b.move == none {
		return who, code
	}
	if b.device.Write(b.move.No, b.move.At, []byte{data}) != api.OK {
		b.device.Finish(b.move.No, 1, true)
		b.move = none
		return who, code
	}
	b.move.At++
	if b.move.At == b.move.Size {
		b.device.Finish(b.move.No, 0, false)
		b.move = none
	}
	return who, code
}

func TestAgainstByHand(t *testing.T) {
	r := rand.New(rand.NewSource(36))
	for range 60 {
		var masters []api.Master
		for range 3 {
			period := 1 + uint64(r.Intn(8))
			masters = append(masters, api.Master{Prio: r.Intn(3), Burst: r.Intn(3), Share: api.Share{Budget: 1 + uint64(r.Intn(int(period))), Period: period}})
		}
		s, o := made(t, masters...), made(t, masters...)
		hand := &byHand{device: o.device, bus: o.bus, move: none}
		sums := []uint64{0}
		for now := uint64(0); now < 200; now++ {
			if r.Intn(3) == 0 {
				id, buf, n, dead := r.Intn(9), r.Intn(4), 1+r.Intn(6), now+uint64(r.Intn(40))
				q := api.Req{ID: id, Dead: dead, Piece: api.Piece{Buf: s.bufs[buf], From: r.Intn(3), Len: n}}
				if s.device.Submit(q) != o.device.Submit(q) {
					t.Fatal("the devices aren't alike")
				}
				s.device.Start()
				o.device.Start()
			}
			if r.Intn(9) == 0 {
				id := r.Intn(9)
				s.device.Cancel(id)
				o.device.Cancel(id)
			}
			if r.Intn(20) == 0 {
				had := hand.move != none
				if had {
					hand.device.Finish(hand.move.No, 2, true)
					hand.move = none
				}
				if s.engine.Quiet() != had {
					t.Fatalf("P24.2: Quiet isn't %v", had)
				}
			}
			var others []int
			for _, id := range []int{0, 2, 3} {
				if r.Intn(2+id*id) < 2 {
					others = append(others, id)
				}
			}
			want, wantCode := hand.slot(now, others, byte(now))
			ahead := s.engine.State()
			s.slot(t, now, byte(now), want, wantCode, others...)
			s.state(t, hand.move)
			if m := s.engine.State(); m.At > ahead.At+1 || m.At > ahead.At && (want != 1 || wantCode != api.OK) {
				t.Errorf("P24.3: from %v to %v, and %v has the slot", ahead, m, want)
			}
			for {
				a, code := s.device.Reap()
				b, other := o.device.Reap()
				if a != b || code != other {
					t.Errorf("P24.1: %v is reaped, not %v", a, b)
				}
				if code != api.OK {
					break
				}
			}
			fates, _ := o.device.Go(now)
			s.comes(t, now, fates...)
			for i := range s.bufs {
				b, _ := o.pool.Read(o.bufs[i], 0, 8)
				s.holds(t, i, b...)
			}
			n := sums[len(sums)-1]
			if want == 1 && wantCode == api.OK {
				n++
			}
			sums = append(sums, n)
			if t.Failed() {
				t.FailNow()
			}
		}
		for from := range sums {
			for to := from; to < len(sums); to++ {
				if n := sums[to] - sums[from]; n > share.Most(masters[1].Share, uint64(to-from)) {
					t.Fatalf("P24.3: the engine has %v of %v slots", n, to-from)
				}
			}
		}
	}
}
