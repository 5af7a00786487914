package kern_test

import (
	"fmt"
	"math/rand"
	"slices"
	"strings"
	"testing"

	"linchpin/api"
	"linchpin/call"
	"linchpin/cpu"
	"linchpin/ioq"
	"linchpin/irq"
	"linchpin/kern"
	"linchpin/pool"
	"linchpin/rta"
)

// plain is a line that delivers each raise at once.
var plain = api.Line{Count: 1, Depth: 1000, Every: 1, Storm: 10000, Span: 1}

// small is a kernel of two tasks, two servers and three lines.
func small() api.Config {
	gathers := plain
	gathers.Count, gathers.Hold, gathers.Storm, gathers.Span = 2, 5, 3, 10
	return api.Config{
		Tasks:   []api.Work{{Prio: 1, Cost: 2, Period: 10, Dead: 5}, {Prio: 2, Cost: 3, Period: 20, Dead: 15}},
		Loads:   []api.Server{{Budget: 2, Period: 10}, {Budget: 1, Period: 5}},
		Lines:   []api.Line{plain, gathers, plain},
		Classes: []api.Class{{Size: 8, Count: 2}, {Size: 16, Count: 1}},
		Ring:    2,
		Cost:    3,
	}
}

func made(t *testing.T, c api.Config) *kern.Kern {
	t.Helper()
	k, code := kern.New(c)
	if k == nil || code != api.OK {
		t.Fatalf("P22.1: New: %v", code)
	}
	return k
}

// talk says lines, each with the answer that it is to have behind "> ".
func talk(t *testing.T, k *kern.Kern, text string) {
	t.Helper()
	for _, l := range strings.Split(strings.TrimSpace(text), "\n") {
		line, want, _ := strings.Cut(l, " > ")
		if got := k.Line(line); got != want {
			t.Errorf("P22.1: %q: %q, not %q", line, got, want)
		}
	}
}

func TestMay(t *testing.T) {
	for i, c := range []struct {
		change func(c *api.Config)
		ok     bool
	}{
		{func(c *api.Config) {}, true},
		{func(c *api.Config) { c.Tasks = nil }, true},
		{func(c *api.Config) { c.Loads = nil }, false},
		{func(c *api.Config) { c.Lines = nil }, false},
		{func(c *api.Config) { c.Classes = nil }, false},
		{func(c *api.Config) { c.Ring = 0 }, false},
		{func(c *api.Config) { c.Ring = 65 }, false},
		{func(c *api.Config) { c.Cost = 0 }, false},
		{func(c *api.Config) { c.Cost = 1001 }, false},
		{func(c *api.Config) { c.Tasks[1].Cost = 0 }, false},
		{func(c *api.Config) { c.Tasks = slices.Repeat(c.Tasks, 17) }, false},
		{func(c *api.Config) { c.Loads[1].Budget = 0 }, false},
		{func(c *api.Config) { c.Loads[1].Period = 1<<30 + 1 }, false},
		{func(c *api.Config) { c.Lines[2].Storm = 0 }, false},
		{func(c *api.Config) { c.Lines = slices.Repeat(c.Lines, 6) }, false},
		{func(c *api.Config) { c.Classes[1].Size = 8 }, false},
	} {
		config := small()
		c.change(&config)
		if ok := kern.May(config); ok != c.ok {
			t.Errorf("P22.1: May of %v: %v", i, ok)
		}
		if k, code := kern.New(config); (k != nil) != c.ok || (code == api.OK) != c.ok || !c.ok && code != api.Arg {
			t.Errorf("P22.1: New of %v: %v", i, code)
		}
	}
	if kern.May(api.Config{}) {
		t.Error("P22.1: May of none")
	}
}

// Example 10 of the whole.
func TestExample(t *testing.T) {
	talk(t, made(t, small()), "tick 2 > . .")
}

func TestTicks(t *testing.T) {
	talk(t, made(t, small()), `
now > 0
tick 0 > no 1
tick 51 > no 1
release 0 2 > ok
release 0 2 > no 12
release 1 9 > ok
release 2 1 > no 1
release 1 0 > no 1
tick 6 > t0 t0+0 t1 t1 t1/1 .
release 0 1 > no 11
wake 1 2 > ok
wake 2 1 > no 1
tick 4 > s1 . . .
release 0 1 > ok
tick 3 > t0+0 s1 .
now > 13
tick 50 > . . . . . . . . . . . . . . . . . . . . . . . . . . . . . . . . . . . . . . . . . . . . . . . . . .
now > 63`)
}

func TestMissed(t *testing.T) {
	c := small()
	c.Loads[0] = api.Server{Budget: 10, Period: 10}
	k := made(t, c)
	talk(t, k, `
wake 0 6 > ok
release 0 1 > ok
release 1 1 > ok
tick 9 > s0 s0 s0 s0 s0!0 s0 t0+0 t1+1 .`)
}

func TestInterrupts(t *testing.T) {
	talk(t, made(t, small()), `
raise 2 > ok
raise 0 > ok
raise 0 > ok
raise 1 > ok
raise 3 > no 1
tick 5 > s0 s0 . . .
tick 1 > s1
mask 2 > ok
raise 2 > ok
mask 3 > no 1
unmask 3 > no 1
tick 4 > . . . .
unmask 2 > ok
raise 2 > ok
tick 3 > s0 s0 .
raise 1 > ok
raise 1 > ok
raise 1 > ok
raise 1 > storm
raise 1 > ok
tick 3 > . . .
unmask 1 > ok
tick 9 > s1 . . . . s1 . . .`)
}

func TestBuffers(t *testing.T) {
	talk(t, made(t, small()), `
free > 3
get 0 > no 1
get 17 > no 1
get 8 > 0
get 3 > 1
get 3 > 2
get 3 > no 5
free > 0
share 3 > no 3
drop 2147483647 > no 3
share 0 > ok
drop 0 > ok
free > 0
drop 0 > ok
free > 1
drop 0 > no 3
share 0 > no 3
get 8 > 3
drop 0 > no 3
drop 3 > ok`)
}

func TestRequests(t *testing.T) {
	talk(t, made(t, small()), `
get 8 > 0
get 8 > 1
get 8 > 2
start > -
take > no 5
reap > no 5
submit 7 1 20 5 3 0 8 > no 3
submit 7 1 20 5 0 0 9 > no 1
submit 7 16 20 5 0 0 8 > no 1
submit 7 1 3 5 0 0 8 > no 11
submit 7 1 20 5 0 0 8 > ok
submit 7 1 20 5 1 0 8 > no 7
submit 8 1 20 5 0 0 8 > no 8
submit 8 1 20 2 1 2 4 > ok
submit 9 1 9 3 2 0 1 > ok
drop 0 > no 8
start > 9 7
start > -
take > 0 9
take > 1 7
reap > no 10
finish 1 6 0 > ok
finish 1 6 0 > no 12
finish 0 256 0 > no 1
tick 6 > . . . . . .=9a1
finish 0 1 0 > ok
reap > 9
reap > 7
tick 1 > .=7d6
start > 8
cancel 8 > ok
cancel 8 > no 6
tick 1 > .=8a3
take > 2 8
finish 2 0 1 > ok
reap > 8
submit 8 1 20 3 1 2 4 > ok
start > 8
take > 3 8
finish 3 0 1 > ok
reap > 8
release 0 1 > ok
tick 1 > t0+0=8a2
drop 0 > ok
drop 1 > ok
drop 2 > ok
free > 3`)
}

func TestWhat(t *testing.T) {
	k := made(t, small())
	for _, s := range []string{"", " ", "tick", "tick 1 1", "stop", "tick one", "tick -1", "tick 01", "tick 2147483648", "now 1", "\xff", "no 1"} {
		if got := k.Line(s); got != "what?" {
			t.Errorf("P22.1: %q: %q", s, got)
		}
	}
	if got := k.Line("\t now \n"); got != "0" {
		t.Errorf("P22.1: now: %q", got)
	}
}

func TestRun(t *testing.T) {
	k := made(t, small())
	if answers := k.Run([]string{"get 3", "?", "tick 1", "now"}); !slices.Equal(answers, []string{"0", "what?", ".", "1"}) {
		t.Errorf("P22.1: Run: %q", answers)
	}
	if answers := k.Run(nil); len(answers) != 0 {
		t.Errorf("P22.1: Run of none: %q", answers)
	}
}

func TestWhatIsHandedInIsntKept(t *testing.T) {
	c := small()
	k := made(t, c)
	c.Tasks[0].Cost, c.Loads[0].Budget, c.Lines[0].Count, c.Classes[0].Size = 1, 1, 1000, 4
	talk(t, k, `
release 0 2 > ok
wake 0 2 > ok
raise 0 > ok
tick 4 > s0 s0 t0 t0+0
get 8 > 0`)
}

// parts is a kernel as plainly as can be, of the parts themselves.
type parts struct {
	c      api.Config
	cpu    *cpu.Cpu
	irq    *irq.Irq
	pool   *pool.Pool
	device *ioq.Device
	got    []api.Handle
}

func newParts(c api.Config) *parts {
	p := &parts{c: c}
	p.cpu, _ = cpu.New(c.Tasks, c.Loads)
	p.irq, _ = irq.New(c.Lines)
	p.pool, _ = pool.New(c.Classes)
	p.device, _ = ioq.New(p.pool, c.Ring, c.Cost)
	return p
}

func (p *parts) tick() string {
	now := p.cpu.Now()
	p.irq.Go(now)
	for {
		line, n, any := p.irq.Pending()
		if !any {
			break
		}
		p.irq.Ack(now, line)
		p.cpu.Wake(line%len(p.c.Loads), uint64(n))
	}
	ran, _ := p.cpu.Tick()
	fates, _ := p.device.Go(now + 1)
	text := "."
	if ran.Who >= 100 {
		text = fmt.Sprint("s", ran.Who-100)
	} else if ran.Who >= 0 {
		text = fmt.Sprint("t", ran.Who)
	}
	for i, ids := range [][]int{ran.Done, ran.Cut, ran.Missed} {
		for _, id := range ids {
			text += fmt.Sprint("+/!"[i:i+1], id)
		}
	}
	for _, f := range fates {
		text += fmt.Sprint("=", f.ID, " da"[f.Kind:f.Kind+1], f.Why)
	}
	return text
}

func says(code api.Code, ok ...any) string {
	if code != api.OK {
		return fmt.Sprint("no ", int(code))
	}
	return strings.TrimSuffix(fmt.Sprintln(ok...), "\n")
}

func (p *parts) line(name string, n []int) string {
	now := p.cpu.Now()
	buffer := func(b int, do func(h api.Handle) api.Code) string {
		if b >= len(p.got) {
			return "no 3"
		}
		return says(do(p.got[b]), "ok")
	}
	switch name {
	case "tick":
		var l []string
		for range n[0] {
			l = append(l, p.tick())
		}
		return strings.Join(l, " ")
	case "release":
		return says(p.cpu.Release(n[0], uint64(n[1])), "ok")
	case "wake":
		return says(p.cpu.Wake(n[0], uint64(n[1])), "ok")
	case "raise":
		storm, code := p.irq.Raise(now, n[0])
		return says(code, map[bool]string{true: "storm", false: "ok"}[storm])
	case "mask", "unmask":
		return says(p.irq.Mask(now, n[0], name == "mask"), "ok")
	case "get":
		h, code := p.pool.Get(n[0])
		if code == api.OK {
			p.got = append(p.got, h)
		}
		return says(code, len(p.got)-1)
	case "share":
		return buffer(n[0], p.pool.Share)
	case "drop":
		return buffer(n[0], p.pool.Drop)
	case "submit":
		return buffer(n[4], func(h api.Handle) api.Code {
			return p.device.Submit(api.Req{ID: n[0], Op: n[1], Dead: now + uint64(n[2]), Track: n[3], Piece: api.Piece{Buf: h, From: n[5], Len: n[6]}})
		})
	case "start":
		ids := p.device.Start()
		if len(ids) == 0 {
			return "-"
		}
		return strings.Trim(fmt.Sprint(ids), "[]")
	case "take":
		no, d, code := p.device.Take()
		return says(code, no, d.Req)
	case "finish":
		return says(p.device.Finish(n[0], n[1], n[2] != 0), "ok")
	case "reap":
		id, code := p.device.Reap()
		return says(code, id)
	case "cancel":
		return says(p.device.Cancel(n[0]), "ok")
	case "free":
		return fmt.Sprint(p.pool.Free())
	}
	return fmt.Sprint(now)
}

func someConfig(r *rand.Rand) api.Config {
	c := api.Config{Ring: 1 + r.Intn(4), Cost: 1 + uint64(r.Intn(5)), Classes: []api.Class{{Size: 4, Count: 1 + r.Intn(4)}, {Size: 9, Count: 1 + r.Intn(4)}}}
	for range r.Intn(5) {
		period := 4 + uint64(r.Intn(40))
		dead := 1 + uint64(r.Int63n(int64(period)))
		c.Tasks = append(c.Tasks, api.Work{Prio: r.Intn(4), Cost: 1 + uint64(r.Int63n(int64(min(dead, 4)))), Period: period, Dead: dead})
	}
	for range 1 + r.Intn(3) {
		budget := 1 + r.Intn(3)
		c.Loads = append(c.Loads, api.Server{Budget: budget, Period: uint64(budget + r.Intn(30))})
	}
	for range 1 + r.Intn(5) {
		c.Lines = append(c.Lines, api.Line{Count: 1 + r.Intn(3), Hold: uint64(r.Intn(6)), Depth: 1 + r.Intn(3), Every: 1 + uint64(r.Intn(9)), Storm: 1 + r.Intn(6), Span: 1 + uint64(r.Intn(12))})
	}
	return c
}

// someCall tells a command that is likely to mean something; got is how many buffers were got.
func someCall(r *rand.Rand, got, put int) api.Call {
	names := []string{"tick", "tick", "tick", "tick", "release", "release", "wake", "raise", "raise", "raise", "mask", "unmask", "get", "get", "share", "drop", "submit", "submit", "submit", "start", "start", "take", "take", "finish", "finish", "reap", "reap", "cancel", "free", "now"}
	c := api.Call{Name: names[r.Intn(len(names))]}
	nums, _ := call.Nums(c.Name)
	for range nums {
		c.Nums = append(c.Nums, r.Intn(6))
	}
	switch c.Name {
	case "tick":
		c.Nums[0]++
	case "get":
		c.Nums[0] = r.Intn(11)
	case "share", "drop":
		c.Nums[0] = max(0, got-r.Intn(6))
	case "submit":
		c.Nums = []int{r.Intn(9), r.Intn(17), r.Intn(40), r.Intn(9), max(0, got-r.Intn(6)), r.Intn(3), r.Intn(5)}
	case "finish":
		c.Nums[0], c.Nums[1] = max(0, put-r.Intn(5)), r.Intn(257)
	}
	return c
}

// P1 of the whole: line by line the answers are the chapter's.
func TestAgainstParts(t *testing.T) {
	r := rand.New(rand.NewSource(30))
	seen := map[string]int{}
	for range 100 {
		c := someConfig(r)
		k, p := made(t, c), newParts(c)
		put := 0
		for range 300 {
			c := someCall(r, len(p.got), put)
			want := p.line(c.Name, c.Nums)
			if got := k.Line(call.Text(c)); got != want {
				t.Fatalf("P22.1: %v: %q, not %q", c, got, want)
			}
			if c.Name == "start" && want != "-" {
				put += len(call.Words(want))
			}
			seen[want]++
		}
	}
	for _, answer := range []string{"ok", "storm", "-", "no 1", "no 3", "no 5", "no 6", "no 7", "no 8", "no 10", "no 11", "no 12"} {
		if seen[answer] == 0 {
			t.Errorf("P22.1: %q was never told", answer)
		}
	}
}

// told leads a kernel through a wild outside, and tells the texts of its ticks.
func told(r *rand.Rand, k *kern.Kern, n int) []string {
	var ticks []string
	put, got := 0, 0
	for len(ticks) < n {
		c := someCall(r, got, put)
		answer := k.Line(call.Text(c))
		ok := !strings.HasPrefix(answer, "no ")
		switch {
		case c.Name == "tick":
			ticks = append(ticks, call.Words(answer)...)
		case c.Name == "get" && ok:
			got++
		case c.Name == "start" && answer != "-":
			put += len(call.Words(answer))
		}
	}
	return ticks
}

// P4 of the whole: nothing is missed, if all tasks have an answer time.
func TestNothingIsMissed(t *testing.T) {
	r := rand.New(rand.NewSource(31))
	for sets := 0; sets < 40; {
		c := someConfig(r)
		if len(c.Tasks) == 0 || !rta.All(c.Tasks, c.Loads) {
			continue
		}
		sets++
		for _, text := range told(r, made(t, c), 500) {
			if strings.Contains(text, "!") {
				t.Fatalf("P22.2: of %v: %v", c, text)
			}
		}
	}
}

// P2 of the whole: in no span servers run more than what loads take of it at most, whatever is raised.
func TestServersRunNoMoreThanExtra(t *testing.T) {
	r := rand.New(rand.NewSource(32))
	for range 20 {
		c := someConfig(r)
		sums := []uint64{0}
		for i, text := range told(r, made(t, c), 300) {
			n := uint64(0)
			if text[0] == 's' {
				n = 1
			}
			sums = append(sums, sums[i]+n)
		}
		for from := range sums {
			for to := from; to < len(sums); to++ {
				if n := sums[to] - sums[from]; n > rta.Extra(c.Loads, uint64(to-from)) {
					t.Fatalf("P2: with %v, servers ran %v in %v ticks", c.Loads, n, to-from)
				}
			}
		}
	}
}

// P3 and P5 of the whole: each request that was let in has one outcome, in time; then all buffers are tasks', and can be dropped.
func TestEachRequestHasOneOutcome(t *testing.T) {
	r := rand.New(rand.NewSource(33))
	for range 60 {
		c := someConfig(r)
		c.Tasks = nil
		k := made(t, c)
		due := map[int]int{} // by when an open request must have come out
		refs := map[int]int{}
		now, put := 0, 0
		for range 400 {
			cmd := someCall(r, len(refs), put)
			if cmd.Name == "tick" {
				cmd.Nums[0] = 1
			}
			answer := k.Line(call.Text(cmd))
			switch {
			case cmd.Name == "tick":
				now++
				outcomes(t, due, now, answer)
			case cmd.Name == "submit" && answer == "ok":
				due[cmd.Nums[0]] = now + cmd.Nums[2] - int(c.Cost)
			case cmd.Name == "get" && !strings.HasPrefix(answer, "no "):
				refs[len(refs)] = 1
			case cmd.Name == "share" && answer == "ok":
				refs[cmd.Nums[0]]++
			case cmd.Name == "drop" && answer == "ok":
				refs[cmd.Nums[0]]--
			case cmd.Name == "start" && answer != "-":
				put += len(call.Words(answer))
			case cmd.Name == "cancel" && answer == "ok", cmd.Name == "reap" && !strings.HasPrefix(answer, "no "):
				// Their outcomes are told by the next tick; till then no such request may be let in anew here.
				now++
				outcomes(t, due, now, k.Line("tick 1"))
			}
			if t.Failed() {
				t.FailNow()
			}
		}
		for len(due) > 0 && now < 10000 {
			now++
			outcomes(t, due, now, k.Line("tick 1"))
		}
		for b, n := range refs {
			for range n {
				if answer := k.Line(fmt.Sprint("drop ", b)); answer != "ok" {
					t.Fatalf("P5: drop of a buffer, when all have come out: %q", answer)
				}
			}
		}
		total := c.Classes[0].Count + c.Classes[1].Count
		if answer := k.Line("free"); answer != fmt.Sprint(total) {
			t.Fatalf("P5: all dropped: %v of %v are free", answer, total)
		}
	}
}

// outcomes looks whether all outcomes of a tick are those of open requests, and none is open too long.
func outcomes(t *testing.T, due map[int]int, now int, text string) {
	t.Helper()
	for _, part := range strings.Split(text, "=")[1:] {
		var id int
		fmt.Sscanf(part, "%d", &id)
		if _, open := due[id]; !open {
			t.Errorf("P3: at %v: %q tells an outcome of %v, which isn't open", now, text, id)
		}
		delete(due, id)
	}
	for id, at := range due {
		if at <= now {
			t.Errorf("P3: at %v: %v must have come out at %v", now, id, at)
		}
	}
}
