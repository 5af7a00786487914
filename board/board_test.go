package board_test

import (
	"bytes"
	"math/rand"
	"slices"
	"testing"

	"linchpin/api"
	"linchpin/board"
	"linchpin/bus"
	"linchpin/cpu"
	"linchpin/engine"
	"linchpin/ioq"
	"linchpin/irq"
	"linchpin/pool"
	"linchpin/rta"
	"linchpin/share"
)

const nobody = -1

func master(prio, burst int, budget, period uint64) api.Master {
	return api.Master{Prio: prio, Burst: burst, Share: api.Share{Budget: budget, Period: period}}
}

// small is a board of two tasks, two servers, a line that delivers each raise at once, and one that gathers two.
func small() api.Config {
	return api.Config{
		Tasks: []api.Work{{Prio: 1, Cost: 2, Period: 40, Dead: 20}, {Prio: 2, Cost: 3, Period: 40, Dead: 40}},
		Loads: []api.Server{{Budget: 2, Period: 10}, {Budget: 1, Period: 5}},
		Lines: []api.Line{
			{Count: 1, Depth: 1000, Every: 1, Storm: 3, Span: 10},
			{Count: 2, Hold: 5, Depth: 1000, Every: 1, Storm: 10000, Span: 1},
			{Count: 1, Depth: 1000, Every: 1, Storm: 3, Span: 10},
		},
		Classes: []api.Class{{Size: 8, Count: 4}},
		Ring:    2,
		Cost:    3,
	}
}

// three is a processor, a more urgent engine, and one of the outside between them.
func three() []api.Master {
	return []api.Master{master(5, 0, 10, 10), master(1, 0, 1, 10), master(3, 0, 2, 10)}
}

func made(t *testing.T, c api.Config, masters []api.Master) *board.Board {
	t.Helper()
	b, code := board.New(c, masters)
	if b == nil || code != api.OK {
		t.Fatalf("P26.1: New: %v", code)
	}
	return b
}

func is(t *testing.T, what string, code, want api.Code) {
	t.Helper()
	if code != want {
		t.Errorf("%v: %v, not %v", what, code, want)
	}
}

func same(a, b api.Beat) bool {
	return a.Slot == b.Slot && a.Stalled == b.Stalled && a.Ran.Who == b.Ran.Who && slices.Equal(a.Ran.Done, b.Ran.Done) &&
		slices.Equal(a.Ran.Cut, b.Ran.Cut) && slices.Equal(a.Ran.Missed, b.Ran.Missed) && slices.Equal(a.Fates, b.Fates)
}

// beats looks at a tick.
func beats(t *testing.T, b *board.Board, want api.Beat, others ...int) {
	t.Helper()
	now := b.Now()
	if got, code := b.Tick(others, byte(now)); !same(got, want) || code != api.OK || b.Now() != now+1 {
		t.Errorf("P26.2: at %v: Tick(%v): %v, %v, not %v", now, others, got, code, want)
	}
}

func beat(slot, who int, done ...int) api.Beat {
	return api.Beat{Slot: slot, Ran: api.Ran{Who: who, Done: done}}
}

func stalled(slot int) api.Beat {
	return api.Beat{Slot: slot, Stalled: true, Ran: api.Ran{Who: nobody}}
}

func TestMay(t *testing.T) {
	for i, c := range []struct {
		change func(c *api.Config, l []api.Master) []api.Master
		ok     bool
	}{
		{func(c *api.Config, l []api.Master) []api.Master { return l }, true},
		{func(c *api.Config, l []api.Master) []api.Master { return l[:2] }, true},
		{func(c *api.Config, l []api.Master) []api.Master { return l[:1] }, false},
		{func(c *api.Config, l []api.Master) []api.Master { return nil }, false},
		{func(c *api.Config, l []api.Master) []api.Master { return append(l, slices.Repeat(l[2:], 13)...) }, true},
		{func(c *api.Config, l []api.Master) []api.Master { return append(l, slices.Repeat(l[2:], 14)...) }, false},
		{func(c *api.Config, l []api.Master) []api.Master { l[0].Share.Budget = 9; return l }, false},
		{func(c *api.Config, l []api.Master) []api.Master { l[0].Burst = 1; return l }, false},
		{func(c *api.Config, l []api.Master) []api.Master { l[0].Prio = 101; return l }, false},
		{func(c *api.Config, l []api.Master) []api.Master { l[0].Share = api.Share{}; return l }, false},
		{func(c *api.Config, l []api.Master) []api.Master {
			l[0].Share = api.Share{Budget: 1, Period: 1}
			return l
		}, true},
		{func(c *api.Config, l []api.Master) []api.Master { l[2].Burst = -1; return l }, false},
		{func(c *api.Config, l []api.Master) []api.Master { l[1].Share.Budget = 0; return l }, false},
		{func(c *api.Config, l []api.Master) []api.Master { c.Loads = nil; return l }, false},
		{func(c *api.Config, l []api.Master) []api.Master { c.Tasks = nil; return l }, true},
		{func(c *api.Config, l []api.Master) []api.Master { c.Lines = nil; return l }, false},
		{func(c *api.Config, l []api.Master) []api.Master { c.Ring = 0; return l }, false},
		{func(c *api.Config, l []api.Master) []api.Master { c.Cost = 0; return l }, false},
		{func(c *api.Config, l []api.Master) []api.Master { c.Classes = nil; return l }, false},
	} {
		config := small()
		masters := c.change(&config, three())
		if ok := board.May(config, masters); ok != c.ok {
			t.Errorf("P26.1: May of %v: %v", i, ok)
		}
		if b, code := board.New(config, masters); (b != nil) != c.ok || (code == api.OK) != c.ok || !c.ok && code != api.Arg {
			t.Errorf("P26.1: New of %v: %v", i, code)
		}
		if loads := board.Loads(config, masters); (len(loads) > 0) != c.ok {
			t.Errorf("P26.3: Loads of %v: %v", i, loads)
		}
	}
}

// The engine is more urgent, and has a share of 1 of 10: it stalls the processor once in ten ticks.
func TestExample(t *testing.T) {
	c := small()
	c.Loads[0] = api.Server{Budget: 10, Period: 10}
	b := made(t, c, three())
	h, code := b.Get(8)
	is(t, "P26.1: Get", code, api.OK)
	is(t, "P26.1: Submit", b.Submit(api.Req{ID: 7, Dead: 100, Piece: api.Piece{Buf: h, From: 1, Len: 3}}), api.OK)
	is(t, "P26.1: Wake", b.Wake(0, 100), api.OK)
	for now := range 40 {
		want := beat(0, 100)
		if now == 0 || now == 10 || now == 20 {
			want = stalled(1)
		}
		if now == 20 {
			want.Fates = []api.Fate{{ID: 7, Kind: 1}}
		}
		beats(t, b, want)
	}
	if l, code := b.Read(h, 8); !bytes.Equal(l, []byte{0, 0, 10, 20, 0, 0, 0, 0}) || code != api.OK {
		t.Errorf("P26.1: Read: %v, %v", l, code)
	}
}

func TestTasks(t *testing.T) {
	b := made(t, small(), three())
	for _, c := range []struct {
		id     int
		demand uint64
		code   api.Code
	}{{-1, 1, api.Arg}, {2, 1, api.Arg}, {0, 0, api.Arg}, {0, 2, api.OK}, {0, 1, api.State}, {1, 9, api.OK}} {
		is(t, "P26.1: Release", b.Release(c.id, c.demand), c.code)
	}
	is(t, "P26.1: Wake", b.Wake(2, 1), api.Arg)
	beats(t, b, beat(0, 0))
	beats(t, b, stalled(2), 2)
	beats(t, b, stalled(2), 2, 2)
	beats(t, b, beat(0, 0, 0), 2)
	beats(t, b, beat(0, 1))
	beats(t, b, beat(0, 1))
	beats(t, b, api.Beat{Ran: api.Ran{Who: 1, Cut: []int{1}}})
	beats(t, b, beat(nobody, nobody))
	beats(t, b, beat(nobody, nobody), 2)
	is(t, "P26.1: Release, too soon", b.Release(0, 1), api.Denied)
	beats(t, b, beat(nobody, nobody))
	beats(t, b, beat(2, nobody), 2)
}

func TestInterrupts(t *testing.T) {
	b := made(t, small(), three())
	raise := func(line int, want bool, wantCode api.Code) {
		t.Helper()
		if storm, code := b.Raise(line); storm != want || code != wantCode {
			t.Errorf("P26.1: Raise(%v): %v, %v", line, storm, code)
		}
	}
	raise(3, false, api.Arg)
	raise(-1, false, api.Arg)
	raise(2, false, api.OK)
	raise(1, false, api.OK)
	beats(t, b, beat(0, 100))
	raise(1, false, api.OK)
	beats(t, b, beat(0, 101))
	for range 4 {
		beats(t, b, beat(nobody, nobody))
	}
	beats(t, b, beat(0, 101))
	raise(0, false, api.OK)
	raise(0, false, api.OK)
	raise(0, false, api.OK)
	raise(0, true, api.OK)
	beats(t, b, beat(nobody, nobody))
}

func TestMissed(t *testing.T) {
	c, masters := small(), three()
	c.Tasks[0] = api.Work{Prio: 1, Cost: 1, Period: 9, Dead: 2}
	masters[2].Share = api.Share{Budget: 10, Period: 10}
	b := made(t, c, masters)
	b.Release(0, 1)
	beats(t, b, stalled(2), 2)
	want := stalled(2)
	want.Ran.Missed = []int{0}
	beats(t, b, want, 2)
	beats(t, b, beat(0, 0, 0))
}

func TestTickCodes(t *testing.T) {
	b := made(t, small(), three())
	b.Release(0, 1)
	for _, others := range [][]int{{0}, {1}, {3}, {2, 1}, {2, -1}, {-1 << 63}, {1 << 62}} {
		if got, code := b.Tick(others, 1); !same(got, api.Beat{}) || code != api.Arg || b.Now() != 0 {
			t.Errorf("P26.2: Tick(%v): %v, %v", others, got, code)
		}
	}
	others := []int{2, 7}[:1]
	b.Tick(others, 1)
	if others[:2][1] != 7 {
		t.Errorf("P26.2: what was handed in is changed: %v", others[:2])
	}
}

func TestBuffersAndRequests(t *testing.T) {
	b := made(t, small(), three())
	if h, code := b.Get(9); h != (api.Handle{}) || code != api.Arg {
		t.Errorf("P26.1: Get(9): %v, %v", h, code)
	}
	var bufs []api.Handle
	for range 4 {
		h, code := b.Get(1)
		is(t, "P26.1: Get", code, api.OK)
		bufs = append(bufs, h)
	}
	if _, code := b.Get(1); code != api.Empty {
		t.Errorf("P26.1: Get of none: %v", code)
	}
	for _, c := range []struct {
		h    api.Handle
		n    int
		code api.Code
	}{{bufs[0], 9, api.Arg}, {bufs[0], -1, api.Arg}, {api.Handle{Slot: 0, Gen: 2}, 1, api.Stale}, {api.Handle{Slot: 9, Gen: 1}, 0, api.Stale}, {bufs[0], 0, api.OK}} {
		if l, code := b.Read(c.h, c.n); len(l) != 0 || code != c.code {
			t.Errorf("P26.1: Read(%v, %v): %v, %v", c.h, c.n, l, code)
		}
	}
	r := api.Req{ID: 7, Dead: 3, Piece: api.Piece{Buf: bufs[0], Len: 3}}
	is(t, "P26.1: Submit, too late", b.Submit(r), api.Denied)
	r.Dead = 6
	is(t, "P26.1: Submit", b.Submit(r), api.OK)
	is(t, "P26.1: Submit, again", b.Submit(r), api.Owner)
	r.Piece.Buf = bufs[1]
	is(t, "P26.1: Submit, again", b.Submit(r), api.Exists)
	// The engine has one slot of ten: the request's time comes ahead of its last byte.
	beats(t, b, beat(1, nobody))
	beats(t, b, beat(nobody, nobody))
	want := beat(nobody, nobody)
	want.Fates = []api.Fate{{ID: 7, Kind: 2, Why: 1}}
	beats(t, b, want)
	for range 7 {
		beats(t, b, beat(nobody, nobody))
	}
	is(t, "P26.1: Submit of one whose descriptor is there", b.Submit(api.Req{ID: 7, Dead: 60, Piece: r.Piece}), api.Exists)
	beats(t, b, beat(1, nobody))
	is(t, "P26.1: Submit of one whose descriptor is reaped", b.Submit(api.Req{ID: 7, Dead: 60, Piece: r.Piece}), api.OK)
	if l, _ := b.Read(bufs[0], 3); !bytes.Equal(l, []byte{0, 0, 0}) {
		t.Errorf("P26.2: what is written behind an outcome: %v", l)
	}
}

func TestLoads(t *testing.T) {
	c := small()
	loads := board.Loads(c, three())
	want := []api.Server{{Budget: 2, Period: 10}, {Budget: 1, Period: 5}, {Budget: 2, Period: 10}, {Budget: 4, Period: 10}}
	if !slices.Equal(loads, want) {
		t.Errorf("P26.3: Loads: %v", loads)
	}
	loads[0].Budget = 9
	if c.Loads[0].Budget != 2 {
		t.Error("P26.3: what was handed in is changed")
	}
	great := []api.Master{master(0, 0, 1, 1), master(0, 0, 1<<40, 1<<40)}
	if loads := board.Loads(c, great); len(loads) != 3 || loads[2] != (api.Server{Budget: 1 << 41, Period: 1 << 40}) {
		t.Errorf("P26.3: Loads: %v", loads)
	}
}

// byHand does what a board does, by the chapter's words, with parts of its own.
type byHand struct {
	servers int
	cpu     *cpu.Cpu
	irq     *irq.Irq
	pool    *pool.Pool
	device  *ioq.Device
	engine  *engine.Engine
}

func newByHand(c api.Config, masters []api.Master) *byHand {
	b := &byHand{servers: len(c.Loads)}
	b.cpu, _ = cpu.New(c.Tasks, c.Loads)
	b.irq, _ = irq.New(c.Lines)
	b.pool, _ = pool.New(c.Classes)
	b.device, _ = ioq.New(b.pool, c.Ring, c.Cost)
	slots, _ := bus.New(masters, 0)
	b.engine, _ = engine.New(b.device, slots, 1)
	return b
}

func (b *byHand) tick(others []int, data byte) api.Beat {
	now := b.cpu.Now()
	b.irq.Go(now)
	for line, n, any := b.irq.Pending(); any; line, n, any = b.irq.Pending() {
		b.irq.Ack(now, line)
		b.cpu.Wake(line%b.servers, uint64(n))
	}
	b.device.Start()
	wants := b.cpu.Wants()
	if wants {
		others = append([]int{0}, others...)
	}
	beat := api.Beat{Slot: nobody}
	if who, code := b.engine.Slot(now, others, data); code == api.OK {
		beat.Slot = who
	}
	if wants && beat.Slot != 0 {
		beat.Stalled = true
		beat.Ran, _ = b.cpu.Skip()
	} else {
		beat.Ran, _ = b.cpu.Tick()
	}
	for code := api.OK; code == api.OK; {
		_, code = b.device.Reap()
	}
	beat.Fates, _ = b.device.Go(b.cpu.Now())
	return beat
}

func someConfig(r *rand.Rand) api.Config {
	c := api.Config{Ring: 1 + r.Intn(4), Cost: 1 + uint64(r.Intn(5)), Classes: []api.Class{{Size: 4, Count: 1 + r.Intn(4)}, {Size: 9, Count: 1 + r.Intn(4)}}}
	for range r.Intn(5) {
		period := 4 + uint64(r.Intn(80))
		dead := 1 + uint64(r.Int63n(int64(period)))
		c.Tasks = append(c.Tasks, api.Work{Prio: r.Intn(4), Cost: 1 + uint64(r.Int63n(int64(min(dead, 4)))), Period: period, Dead: dead})
	}
	for range 1 + r.Intn(3) {
		budget := 1 + r.Intn(3)
		c.Loads = append(c.Loads, api.Server{Budget: budget, Period: uint64(budget + r.Intn(30))})
	}
	for range 1 + r.Intn(5) {
		c.Lines = append(c.Lines, api.Line{Count: 1 + r.Intn(3), Hold: uint64(r.Intn(6)), Depth: 1 + r.Intn(3), Every: 1 + uint64(r.Intn(9)), Storm: 1 + r.Intn(6), Span: 1 + uint64(r.Intn(12))})
	}
	return c
}

func someMasters(r *rand.Rand) []api.Master {
	period := 1 + uint64(r.Intn(20))
	l := []api.Master{master(r.Intn(5), 0, period, period)}
	for range 1 + r.Intn(3) {
		period := 1 + uint64(r.Intn(40))
		l = append(l, master(r.Intn(5), r.Intn(4), 1+uint64(r.Int63n(int64(period)))/4, period))
	}
	return l
}

// outside is what the outside does to a board: wildly, but told by a source of numbers alone.
type outside struct {
	r       *rand.Rand
	masters int
	tasks   int
	now     uint64
	bufs    []api.Handle
}

func (o *outside) req() api.Req {
	h := api.Handle{}
	if len(o.bufs) > 0 {
		h = o.bufs[o.r.Intn(len(o.bufs))]
	}
	return api.Req{ID: o.r.Intn(9), Op: o.r.Intn(16), Dead: o.now + uint64(o.r.Intn(60)), Track: o.r.Intn(9), Piece: api.Piece{Buf: h, From: o.r.Intn(3), Len: 1 + o.r.Intn(4)}}
}

func (o *outside) others() []int {
	var l []int
	for id := 2; id < o.masters; id++ {
		if o.r.Intn(2) == 0 {
			l = append(l, id)
		}
	}
	return l
}

func TestAgainstByHand(t *testing.T) {
	r := rand.New(rand.NewSource(39))
	for round := range 100 {
		c, masters := someConfig(r), someMasters(r)
		b, hand := made(t, c, masters), newByHand(c, masters)
		o := &outside{r: r, masters: len(masters), tasks: len(c.Tasks)}
		for range 300 {
			id, n := r.Intn(6)-1, uint64(r.Intn(5))
			switch r.Intn(6) {
			case 0:
				is(t, "P26.1: Release", b.Release(id, n), hand.cpu.Release(id, n))
			case 1:
				is(t, "P26.1: Wake", b.Wake(id, n), hand.cpu.Wake(id, n))
			case 2:
				storm, code := b.Raise(id)
				want, wantCode := hand.irq.Raise(hand.cpu.Now(), id)
				if storm != want || code != wantCode {
					t.Errorf("P26.1: Raise(%v): %v, %v, not %v, %v", id, storm, code, want, wantCode)
				}
			case 3:
				h, code := b.Get(3 * id)
				want, wantCode := hand.pool.Get(3 * id)
				if h != want || code != wantCode {
					t.Errorf("P26.1: Get: %v, %v, not %v, %v", h, code, want, wantCode)
				}
				if code == api.OK {
					o.bufs = append(o.bufs, h)
				}
			case 4, 5:
				q := o.req()
				is(t, "P26.1: Submit", b.Submit(q), hand.device.Submit(q))
			}
			others, data := o.others(), byte(r.Intn(256))
			want := hand.tick(others, data)
			if got, code := b.Tick(others, data); !same(got, want) || code != api.OK {
				t.Errorf("P26.2: at %v: %v, %v, not %v", o.now, got, code, want)
			}
			o.now++
			if b.Now() != o.now {
				t.Errorf("P26.1: Now: %v, not %v", b.Now(), o.now)
			}
			for _, h := range o.bufs {
				got, _ := b.Read(h, 4)
				want, _ := hand.pool.Read(h, 0, 4)
				if !bytes.Equal(got, want) {
					t.Errorf("P26.1: Read: %v, not %v", got, want)
				}
			}
			if t.Failed() {
				t.Fatalf("round %v", round)
			}
		}
	}
}

// wild leads a board through a wild outside, and tells its ticks; let tells what becomes of requests that were let in.
func wild(b *board.Board, o *outside, n int, let func(r api.Req)) []api.Beat {
	var beats []api.Beat
	for range n {
		for id := range o.tasks {
			if o.r.Intn(3) > 0 {
				b.Release(id, 1+uint64(o.r.Intn(6)))
			}
		}
		b.Wake(o.r.Intn(3), uint64(o.r.Intn(9)))
		for range o.r.Intn(4) {
			b.Raise(o.r.Intn(5))
		}
		if h, code := b.Get(1 + o.r.Intn(9)); code == api.OK {
			o.bufs = append(o.bufs, h)
		}
		if q := o.req(); b.Submit(q) == api.OK {
			let(q)
		}
		beat, _ := b.Tick(o.others(), byte(o.r.Intn(256)))
		beats = append(beats, beat)
		o.now++
	}
	return beats
}

// P4 of the whole, on a board: whoever has an answer time with its loads is done, or cut off, by it.
func TestInTime(t *testing.T) {
	r := rand.New(rand.NewSource(40))
	for sets := 0; sets < 60; {
		c, masters := someConfig(r), someMasters(r)
		if len(c.Tasks) == 0 || !rta.All(c.Tasks, board.Loads(c, masters)) {
			continue
		}
		sets++
		o := &outside{r: r, masters: len(masters), tasks: len(c.Tasks)}
		for now, beat := range wild(made(t, c, masters), o, 400, func(api.Req) {}) {
			if len(beat.Ran.Missed) > 0 {
				t.Fatalf("P26.4: of %v with %v at %v: %v missed", c, masters, now, beat.Ran.Missed)
			}
		}
	}
}

// P2 of the whole: others steal no more ticks than their shares let, and servers run no more than their budgets let.
func TestInterference(t *testing.T) {
	r := rand.New(rand.NewSource(41))
	for range 30 {
		c, masters := someConfig(r), someMasters(r)
		o := &outside{r: r, masters: len(masters), tasks: len(c.Tasks)}
		beats := wild(made(t, c, masters), o, 200, func(api.Req) {})
		for from := range beats {
			stolen, served := make([]uint64, len(masters)), uint64(0)
			for to := from; to < len(beats); to++ {
				span := uint64(to - from + 1)
				if beats[to].Ran.Who >= api.Servers {
					served++
				}
				if served > rta.Extra(c.Loads, span) {
					t.Fatalf("P2: servers ran %v in %v ticks", served, span)
				}
				if !beats[to].Stalled {
					continue
				}
				who := beats[to].Slot
				stolen[who]++
				if who == 0 || stolen[who] > share.Most(masters[who].Share, span) {
					t.Fatalf("P26.4: %v stole %v of %v ticks", who, stolen[who], span)
				}
			}
		}
	}
}

// P3 and P5 of the whole, on a board: each request that was let in has one outcome, in time, and its buffer doesn't change behind it.
func TestOutcomes(t *testing.T) {
	r := rand.New(rand.NewSource(42))
	for range 40 {
		c, masters := someConfig(r), someMasters(r)
		b := made(t, c, masters)
		o := &outside{r: r, masters: len(masters), tasks: len(c.Tasks)}
		due, done := map[int]uint64{}, 0
		var inUse []api.Handle
		for range 300 {
			beat := wild(b, o, 1, func(q api.Req) {
				due[q.ID] = q.Dead - c.Cost
				inUse = append(inUse, q.Piece.Buf)
			})[0]
			for _, f := range beat.Fates {
				if _, open := due[f.ID]; !open {
					t.Fatalf("P3: an outcome of %v, which isn't open", f.ID)
				}
				delete(due, f.ID)
				done++
			}
			for id, at := range due {
				if at <= o.now {
					t.Fatalf("P3: at %v: %v must have come out at %v", o.now, id, at)
				}
			}
		}
		for len(due) > 0 {
			for _, f := range wild(b, &outside{r: r, masters: 2, now: o.now}, 1, func(q api.Req) {})[0].Fates {
				delete(due, f.ID)
			}
			o.now++
			if o.now > 1000 {
				t.Fatal("P3: some never come out")
			}
		}
		before := contents(b, inUse)
		wild(b, &outside{r: r, masters: 2, now: o.now}, 50, func(q api.Req) {})
		if after := contents(b, inUse); !slices.Equal(before, after) {
			t.Fatalf("P5: behind all outcomes %v is written over: %v", before, after)
		}
	}
}

func contents(b *board.Board, bufs []api.Handle) []byte {
	var all []byte
	for _, h := range bufs {
		l, _ := b.Read(h, 4)
		all = append(all, l...)
	}
	return all
}
