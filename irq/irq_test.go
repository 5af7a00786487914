package irq_test

import (
	"math/rand"
	"testing"

	"linchpin/api"
	"linchpin/bucket"
	"linchpin/irq"
)

const top = 1<<64 - 1

// plain is a line that delivers each raise at once.
var plain = api.Line{Count: 1, Depth: 1000, Every: 1, Storm: 10000, Span: 1}

func made(t *testing.T, list ...api.Line) *irq.Irq {
	t.Helper()
	c, code := irq.New(list)
	if c == nil || code != api.OK {
		t.Fatalf("P13.1: New(%v): %v", list, code)
	}
	return c
}

func is(t *testing.T, what string, code, want api.Code) {
	t.Helper()
	if code != want {
		t.Errorf("%v: %v, not %v", what, code, want)
	}
}

func raise(t *testing.T, c *irq.Irq, now uint64, no int, want bool) {
	t.Helper()
	if storm, code := c.Raise(now, no); storm != want || code != api.OK {
		t.Errorf("P13.1: Raise(%v, %v): %v, %v", now, no, storm, code)
	}
}

func ack(t *testing.T, c *irq.Irq, now uint64, no, want int, wantCode api.Code) {
	t.Helper()
	if n, code := c.Ack(now, no); n != want || code != wantCode {
		t.Errorf("P13.2: Ack(%v, %v): %v, %v, not %v, %v", now, no, n, code, want, wantCode)
	}
}

func state(t *testing.T, c *irq.Irq, no, held, pends int, masked bool) {
	t.Helper()
	if h, p, m := c.State(no); h != held || p != pends || m != masked {
		t.Errorf("P13.2: State(%v): %v, %v, %v, not %v, %v, %v", no, h, p, m, held, pends, masked)
	}
}

func pending(t *testing.T, c *irq.Irq, no, n int, any bool) {
	t.Helper()
	if gotNo, got, ok := c.Pending(); gotNo != no || got != n || ok != any {
		t.Errorf("P13.2: Pending: %v, %v, %v, not %v, %v, %v", gotNo, got, ok, no, n, any)
	}
}

func TestMay(t *testing.T) {
	good := api.Line{Count: 3, Hold: 10, Depth: 2, Every: 10, Storm: 3, Span: 10}
	for i, c := range []struct {
		change func(l *api.Line)
		ok     bool
	}{
		{func(l *api.Line) {}, true},
		{func(l *api.Line) { *l = api.Line{Count: 1, Depth: 1, Every: 1, Storm: 1, Span: 1} }, true},
		{func(l *api.Line) {
			*l = api.Line{Count: 1000, Hold: 1 << 40, Depth: 1000, Every: 1 << 40, Storm: 10000, Span: 1 << 40}
		}, true},
		{func(l *api.Line) { *l = api.Line{} }, false},
		{func(l *api.Line) { l.Count = 0 }, false},
		{func(l *api.Line) { l.Count = 1001 }, false},
		{func(l *api.Line) { l.Hold = 1<<40 + 1 }, false},
		{func(l *api.Line) { l.Depth = 0 }, false},
		{func(l *api.Line) { l.Depth = 1001 }, false},
		{func(l *api.Line) { l.Every = 0 }, false},
		{func(l *api.Line) { l.Every = 1<<40 + 1 }, false},
		{func(l *api.Line) { l.Storm = 0 }, false},
		{func(l *api.Line) { l.Storm = -1 }, false},
		{func(l *api.Line) { l.Storm = 10001 }, false},
		{func(l *api.Line) { l.Span = 0 }, false},
		{func(l *api.Line) { l.Span = 1<<40 + 1 }, false},
		{func(l *api.Line) { l.Span = top }, false},
	} {
		l := good
		c.change(&l)
		if ok := irq.May(l); ok != c.ok {
			t.Errorf("P13.1: May of %v: %v", i, ok)
		}
		if made, code := irq.New([]api.Line{good, l}); (made != nil) != c.ok || (code == api.OK) != c.ok || !c.ok && code != api.Arg {
			t.Errorf("P13.1: New with %v: %v", i, code)
		}
	}
	for n := range 19 {
		list := make([]api.Line, n)
		for i := range list {
			list[i] = good
		}
		ok := n >= 1 && n <= 16
		if made, code := irq.New(list); (made != nil) != ok || (code == api.OK) != ok || !ok && code != api.Arg {
			t.Errorf("P13.1: New of %v: %v", n, code)
		}
	}
}

func TestExample(t *testing.T) {
	l := plain
	l.Count, l.Hold = 2, 10
	c := made(t, l)
	raise(t, c, 1, 0, false)
	pending(t, c, 0, 0, false)
	raise(t, c, 2, 0, false)
	pending(t, c, 0, 2, true)
	ack(t, c, 2, 0, 2, api.OK)
	pending(t, c, 0, 0, false)
}

// Example 4 of the whole.
func TestPendsTenTicksLater(t *testing.T) {
	l := plain
	l.Count, l.Hold = 3, 10
	c := made(t, l)
	raise(t, c, 5, 0, false)
	raise(t, c, 6, 0, false)
	is(t, "P13.1: Go", c.Go(14), api.OK)
	state(t, c, 0, 0, 0, false)
	is(t, "P13.1: Go", c.Go(15), api.OK)
	state(t, c, 0, 0, 2, false)
}

// Example 5 of the whole, and what becomes of a storm.
func TestStorm(t *testing.T) {
	l := plain
	l.Count, l.Hold, l.Storm, l.Span = 2, 100, 3, 10
	c := made(t, l)
	for _, now := range []uint64{11, 12, 13} {
		raise(t, c, now, 0, false)
	}
	state(t, c, 0, 0, 2, false)
	raise(t, c, 19, 0, true)
	state(t, c, 0, 0, 2, true)
	pending(t, c, 0, 0, false)
	ack(t, c, 19, 0, 0, api.State)
	raise(t, c, 19, 0, false)
	is(t, "P13.2: Mask", c.Mask(19, 0, false), api.OK)
	pending(t, c, 0, 2, true)
	raise(t, c, 19, 0, true)
	is(t, "P13.2: Mask", c.Mask(20, 0, false), api.OK)
	ack(t, c, 20, 0, 2, api.OK)
	// What was gathered at 13 is lost: a raise in the next window is the first of a new gatherer.
	raise(t, c, 20, 0, false)
	state(t, c, 0, 0, 0, false)
	raise(t, c, 21, 0, false)
	state(t, c, 0, 0, 2, false)
	is(t, "P13.1: Go", c.Go(500), api.OK)
	state(t, c, 0, 0, 2, false)
}

func TestStormCountsByWindows(t *testing.T) {
	l := plain
	l.Storm, l.Span = 1, 10
	c := made(t, l)
	raise(t, c, 9, 0, false)
	raise(t, c, 10, 0, false)
	raise(t, c, 20, 0, false)
	raise(t, c, 29, 0, true)
	// Raises of a masked line don't count.
	raise(t, c, 30, 0, false)
	raise(t, c, 30, 0, false)
	c.Mask(31, 0, false)
	raise(t, c, 31, 0, false)
	raise(t, c, 32, 0, true)
}

func TestHeldTillThereIsAToken(t *testing.T) {
	l := plain
	l.Depth, l.Every = 1, 10
	c := made(t, l)
	raise(t, c, 1, 0, false)
	state(t, c, 0, 0, 1, false)
	raise(t, c, 2, 0, false)
	state(t, c, 0, 1, 1, false)
	ack(t, c, 3, 0, 1, api.OK)
	state(t, c, 0, 1, 0, false)
	raise(t, c, 9, 0, false)
	state(t, c, 0, 2, 0, false)
	is(t, "P13.1: Go", c.Go(10), api.OK)
	state(t, c, 0, 0, 2, false)
	raise(t, c, 25, 0, false)
	ack(t, c, 25, 0, 2, api.OK)
	state(t, c, 0, 0, 1, false)
}

func TestMask(t *testing.T) {
	l := plain
	l.Count, l.Hold = 2, 10
	c := made(t, l, plain)
	raise(t, c, 1, 0, false)
	is(t, "P13.2: Mask", c.Mask(2, 0, true), api.OK)
	raise(t, c, 3, 0, false)
	raise(t, c, 3, 1, false)
	pending(t, c, 1, 1, true)
	is(t, "P13.1: Go", c.Go(11), api.OK)
	state(t, c, 0, 1, 0, true)
	ack(t, c, 12, 0, 0, api.State)
	is(t, "P13.2: Mask", c.Mask(12, 0, true), api.OK)
	state(t, c, 0, 1, 0, true)
	is(t, "P13.2: Mask", c.Mask(12, 0, false), api.OK)
	state(t, c, 0, 0, 1, false)
	pending(t, c, 0, 1, true)
	is(t, "P13.2: Mask", c.Mask(12, 0, true), api.OK)
	state(t, c, 0, 0, 1, true)
	ack(t, c, 12, 0, 0, api.State)
	pending(t, c, 1, 1, true)
}

func TestCodes(t *testing.T) {
	c := made(t, plain, plain)
	c.Go(20)
	raise(t, c, 20, 1, false)
	calls := []func(now uint64, no int) api.Code{
		func(now uint64, no int) api.Code {
			storm, code := c.Raise(now, no)
			if storm {
				t.Errorf("P13.1: a storm is told beside %v", code)
			}
			return code
		},
		func(now uint64, no int) api.Code {
			n, code := c.Ack(now, no)
			if n != 0 {
				t.Errorf("P13.2: %v are told beside %v", n, code)
			}
			return code
		},
		func(now uint64, no int) api.Code { return c.Mask(now, no, true) },
	}
	for i, call := range calls {
		for _, k := range []struct {
			now  uint64
			no   int
			code api.Code
		}{
			{19, 0, api.Arg}, {0, 0, api.Arg}, {30, 2, api.Arg}, {30, -1, api.Arg}, {30, 16, api.Arg}, {30, 1 << 62, api.Arg}, {30, -1 << 63, api.Arg},
			{api.Last, 0, api.Horizon}, {top, 9, api.Horizon},
		} {
			if code := call(k.now, k.no); code != k.code {
				t.Errorf("P13.1: call %v at %v of %v: %v, not %v", i, k.now, k.no, code, k.code)
			}
		}
	}
	is(t, "P13.1: Go back", c.Go(19), api.Arg)
	is(t, "P13.1: Go", c.Go(api.Last), api.Horizon)
	state(t, c, 0, 0, 0, false)
	state(t, c, 1, 0, 1, false)
	for _, no := range []int{-1 << 63, -1, 2, 16, 1 << 62} {
		state(t, c, no, 0, 0, false)
	}
	is(t, "P13.1: Go", c.Go(20), api.OK)
	is(t, "P13.1: Go", c.Go(api.Last-1), api.OK)
}

// An Ack that is refused leaves no trace, not even that the time went on.
func TestRefusedAck(t *testing.T) {
	l := plain
	l.Count, l.Hold = 2, 10
	c := made(t, plain, l)
	raise(t, c, 5, 1, false)
	ack(t, c, 15, 0, 0, api.State)
	state(t, c, 1, 0, 0, false)
	is(t, "P13.2: Go behind a refused Ack", c.Go(6), api.OK)
	// What is due by then does pend, and is acknowledged.
	ack(t, c, 15, 1, 1, api.OK)
	is(t, "P13.2: Go back behind an Ack", c.Go(14), api.Arg)
}

func TestAckOfWhatComesToPend(t *testing.T) {
	l := plain
	l.Depth, l.Every = 1, 10
	c := made(t, l)
	raise(t, c, 1, 0, false)
	raise(t, c, 1, 0, false)
	ack(t, c, 1, 0, 1, api.OK)
	ack(t, c, 9, 0, 0, api.State)
	ack(t, c, 10, 0, 1, api.OK)
	ack(t, c, 10, 0, 0, api.State)
}

// model is a line as plainly as can be: each raise is kept with when it was, and where it is on its way.
type model struct {
	api.Line
	gathered     []uint64
	held, pends  int
	masked       bool
	window       uint64
	raises       int
	tokens       int
	tokensUpTo   uint64
	lost, raised int
}

func (m *model) goOn(now uint64) {
	if len(m.gathered) > 0 && m.gathered[0]+m.Hold <= now {
		m.held += len(m.gathered)
		m.gathered = nil
	}
	for m.tokensUpTo < now {
		m.tokensUpTo++
		if m.tokensUpTo%m.Every == 0 && m.tokens < m.Depth {
			m.tokens++
		}
	}
	m.deliver()
}

func (m *model) deliver() {
	if !m.masked && m.pends == 0 && m.held > 0 && m.tokens > 0 {
		m.tokens--
		m.pends, m.held = m.held, 0
	}
}

func (m *model) raise(now uint64) bool {
	m.raised++
	if m.masked {
		m.lost++
		return false
	}
	if now/m.Span != m.window {
		m.window, m.raises = now/m.Span, 0
	}
	m.raises++
	if m.raises > m.Storm {
		m.masked = true
		m.lost += len(m.gathered) + 1
		m.gathered = nil
		return true
	}
	m.gathered = append(m.gathered, now)
	if len(m.gathered) == m.Count || m.Hold == 0 {
		m.held += len(m.gathered)
		m.gathered = nil
	}
	m.deliver()
	return false
}

func someLine(r *rand.Rand) api.Line {
	return api.Line{Count: 1 + r.Intn(4), Hold: uint64(r.Intn(6)), Depth: 1 + r.Intn(3), Every: 1 + uint64(r.Intn(8)), Storm: 1 + r.Intn(6), Span: 1 + uint64(r.Intn(12))}
}

func TestAgainstModel(t *testing.T) {
	r := rand.New(rand.NewSource(17))
	for round := range 150 {
		var list []api.Line
		var lines []*model
		for range 1 + r.Intn(3) {
			l := someLine(r)
			list = append(list, l)
			lines = append(lines, &model{Line: l, tokens: l.Depth})
		}
		c := made(t, list...)
		acked := make([]int, len(list))
		for now, step := uint64(0), 0; step < 300; step++ {
			now += uint64(r.Intn(5) / 3)
			no := r.Intn(len(list))
			m := lines[no]
			what := r.Intn(6)
			for _, m := range lines {
				m.goOn(now)
			}
			switch what {
			case 0:
				is(t, "P13.1: Go", c.Go(now), api.OK)
			case 1, 2:
				raise(t, c, now, no, m.raise(now))
			case 3, 4:
				want, wantCode := m.pends, api.OK
				if m.masked || m.pends == 0 {
					want, wantCode = 0, api.State
				}
				ack(t, c, now, no, want, wantCode)
				if wantCode == api.State {
					is(t, "P13.1: Go", c.Go(now), api.OK)
					break
				}
				acked[no] += want
				m.pends = 0
				m.deliver()
			case 5:
				m.masked = r.Intn(3) == 0
				is(t, "P13.2: Mask", c.Mask(now, no, m.masked), api.OK)
				m.deliver()
			}
			first, n, any := 0, 0, false
			for no, m := range lines {
				state(t, c, no, m.held, m.pends, m.masked)
				if !any && !m.masked && m.pends > 0 {
					first, n, any = no, m.pends, true
				}
			}
			pending(t, c, first, n, any)
			if t.Failed() {
				t.Fatalf("round %v, step %v, at %v: %v of %v, of %v", round, step, now, what, no, list)
			}
		}
		for no, m := range lines {
			if m.raised != m.lost+acked[no]+m.pends+m.held+len(m.gathered) {
				t.Errorf("P13.3: %v raised, %v lost, %v acknowledged, %v on their way", m.raised, m.lost, acked[no], m.pends+m.held+len(m.gathered))
			}
		}
	}
}

// However often it is raised, in no span a line pends anew more often than its bucket lets.
func TestPendsNoMoreOftenThanMost(t *testing.T) {
	r := rand.New(rand.NewSource(18))
	for range 30 {
		l := someLine(r)
		l.Storm = 10000
		c := made(t, l)
		sums := []uint64{0}
		for now := range uint64(120) {
			n := uint64(0)
			for range r.Intn(8) {
				c.Raise(now, 0)
				if _, code := c.Ack(now, 0); code == api.OK {
					n++
				}
			}
			sums = append(sums, sums[now]+n)
		}
		for from := range sums {
			for to := from; to < len(sums); to++ {
				if n := sums[to] - sums[from]; n > bucket.Most(l.Depth, l.Every, uint64(to-from)) {
					t.Fatalf("P13.3: of %v, %v in %v ticks: %v", l.Depth, l.Every, to-from, n)
				}
			}
		}
	}
}
