package trace_test

import (
	"math/rand"
	"slices"
	"strconv"
	"strings"
	"testing"

	"linchpin/api"
	"linchpin/kern"
	"linchpin/trace"
)

func tock(who int, done, cut, missed []int, fates ...api.Fate) api.Tock {
	return api.Tock{Ran: api.Ran{Who: who, Done: done, Cut: cut, Missed: missed}, Fates: fates}
}

func fate(id, kind, why int) api.Fate { return api.Fate{ID: id, Kind: kind, Why: why} }

func same(a, b api.Tock) bool {
	return a.Ran.Who == b.Ran.Who && slices.Equal(a.Ran.Done, b.Ran.Done) && slices.Equal(a.Ran.Cut, b.Ran.Cut) &&
		slices.Equal(a.Ran.Missed, b.Ran.Missed) && slices.Equal(a.Fates, b.Fates)
}

func TestTextAndParse(t *testing.T) {
	for _, c := range []struct {
		t    api.Tock
		text string
	}{
		{tock(0, []int{0}, nil, nil, fate(7, 1, 5)), "t0+0=7d5"},
		{tock(-1, nil, nil, nil), "."},
		{tock(-1, []int{}, []int{}, []int{}), "."},
		{tock(31, nil, []int{31}, nil), "t31/31"},
		{tock(100, nil, nil, []int{0, 1, 31}), "s0!0!1!31"},
		{tock(115, nil, nil, nil), "s15"},
		{tock(5, []int{1, 2}, []int{3}, []int{2, 4}, fate(0, 2, 1), fate(65535, 1, 255), fate(3, 1, 0), fate(3, 2, 3)), "t5+1+2/3!2!4=0a1=65535d255=3d0=3a3"},
		{tock(-1, nil, nil, nil, fate(10, 2, 2)), ".=10a2"},
	} {
		if !trace.May(c.t) {
			t.Errorf("P25.1: May(%v): false", c.t)
		}
		if text := trace.Text(c.t); text != c.text {
			t.Errorf("P25.1: Text(%v): %q, not %q", c.t, text, c.text)
		}
		if got, code := trace.Parse(c.text); !same(got, c.t) || code != api.OK {
			t.Errorf("P25.1: Parse(%q): %v, %v", c.text, got, code)
		}
	}
}

func TestWhatMayNotBe(t *testing.T) {
	for _, c := range []api.Tock{
		tock(-2, nil, nil, nil),
		tock(-1<<63, nil, nil, nil),
		tock(32, nil, nil, nil),
		tock(99, nil, nil, nil),
		tock(116, nil, nil, nil),
		tock(1<<62, nil, nil, nil),
		tock(0, []int{-1}, nil, nil),
		tock(0, []int{32}, nil, nil),
		tock(0, []int{1, 1}, nil, nil),
		tock(0, []int{2, 1}, nil, nil),
		tock(0, nil, []int{2, 1}, nil),
		tock(0, nil, []int{0, 32}, nil),
		tock(0, nil, nil, []int{3, 3}),
		tock(0, nil, nil, []int{-1, 3}),
		tock(0, nil, nil, nil, fate(-1, 1, 0)),
		tock(0, nil, nil, nil, fate(65536, 1, 0)),
		tock(0, nil, nil, nil, fate(1, 0, 0)),
		tock(0, nil, nil, nil, fate(1, 3, 1)),
		tock(0, nil, nil, nil, fate(1, -1, 1)),
		tock(0, nil, nil, nil, fate(1, 1, -1)),
		tock(0, nil, nil, nil, fate(1, 1, 256)),
		tock(0, nil, nil, nil, fate(1, 2, 0)),
		tock(0, nil, nil, nil, fate(1, 2, 4)),
		tock(0, nil, nil, nil, fate(1, 1, 0), fate(1, 2, -1)),
	} {
		if trace.May(c) {
			t.Errorf("P25.1: May(%v): true", c)
		}
		if text := trace.Text(c); text != "" {
			t.Errorf("P25.1: Text(%v): %q", c, text)
		}
	}
}

var malformed = []string{
	"", " ", "..", ".t0", "t", "s", "t0.", "t0t0", "t0s0", "0", "5t0", "T0", "x0", "+0", "=7d5", "t-1", "t 0", "t0 ", " t0", "t0\n",
	"t32", "t100", "t105", "s16", "s100", "t00", "t01", "s00", "t0+", "t0+32", "t0+00", "t0+1+1", "t0+2+1", "t0/1+1", "t0!1/1", "t0!1+1",
	"t0=", "t0=7", "t0=7d", "t0=7d256", "t0=7d05", "t0=7a0", "t0=7a4", "t0=7x1", "t0=65536d0", "t0=07d0", "t0=7d5d5", "t0=7d5a1", "t0d5", "t0a1", "t0=7d5+1",
	"t0=d5", "t0=7=8d1", "t99999999999999999999", "t0=7d18446744073709551616", "\xff", "t0\xff", "t\xff0", "t٣", ".\x00", "what?", "no 2", "t0,+0", "t0=7d5=",
}

func TestMalformed(t *testing.T) {
	for _, s := range malformed {
		if got, code := trace.Parse(s); !same(got, api.Tock{}) || code != api.Malformed {
			t.Errorf("P25.1: Parse(%q): %v, %v", s, got, code)
		}
	}
}

func TestAll(t *testing.T) {
	list, code := trace.All(" t0+0 .\n.=1a1\ts3 ")
	want := []api.Tock{tock(0, []int{0}, nil, nil), tock(-1, nil, nil, nil), tock(-1, nil, nil, nil, fate(1, 2, 1)), tock(103, nil, nil, nil)}
	if !slices.EqualFunc(list, want, same) || code != api.OK {
		t.Errorf("P25.1: All: %v, %v", list, code)
	}
	for _, s := range []string{"", " \t\r\n"} {
		if list, code := trace.All(s); len(list) != 0 || code != api.OK {
			t.Errorf("P25.1: All(%q): %v, %v", s, list, code)
		}
	}
	for _, s := range []string{". x", "x .", ". no 2", "t0 +0", ". t32"} {
		if list, code := trace.All(s); len(list) != 0 || code != api.Malformed {
			t.Errorf("P25.1: All(%q): %v, %v", s, list, code)
		}
	}
}

func TestSum(t *testing.T) {
	if sum := trace.Sum(nil); sum != (api.Total{}) {
		t.Errorf("P25.2: Sum of none: %v", sum)
	}
	list := []api.Tock{
		tock(-1, nil, nil, []int{1}),
		tock(-9, nil, nil, nil, fate(1, 1, 0), fate(-5, 9, 9)),
		tock(-1<<63, nil, nil, nil),
		tock(0, []int{0}, nil, []int{3, 4}),
		tock(99, []int{5, 5, 5}, []int{1, 2}, nil),
		tock(100, nil, nil, nil, fate(1, 2, 1), fate(1, 0, 1), fate(2, 1, 999)),
		tock(1<<62, nil, nil, []int{-7}),
		tock(115, nil, nil, nil),
		tock(40, nil, nil, nil),
	}
	want := api.Total{Ticks: 9, Idle: 3, Worked: 3, Served: 3, Done: 4, Cut: 2, Missed: 4, Good: 2, Bad: 3}
	if sum := trace.Sum(list); sum != want {
		t.Errorf("P25.2: Sum: %v, not %v", sum, want)
	}
}

func someIDs(r *rand.Rand) []int {
	var ids []int
	for id := range 32 {
		if r.Intn(20) == 0 {
			ids = append(ids, id)
		}
	}
	return ids
}

func some(r *rand.Rand) api.Tock {
	t := tock([]int{-1, r.Intn(32), 100 + r.Intn(16)}[r.Intn(3)], someIDs(r), someIDs(r), someIDs(r))
	for range r.Intn(4) {
		if r.Intn(2) == 0 {
			t.Fates = append(t.Fates, fate(r.Intn(65536), 1, r.Intn(256)))
		} else {
			t.Fates = append(t.Fates, fate(r.Intn(65536), 2, 1+r.Intn(3)))
		}
	}
	return t
}

func TestToldAndReadAgain(t *testing.T) {
	r := rand.New(rand.NewSource(37))
	texts := map[string]api.Tock{}
	for range 5000 {
		c := some(r)
		text := trace.Text(c)
		got, code := trace.Parse(text)
		if !same(got, c) || code != api.OK {
			t.Fatalf("P25.2: %q is read again: %v, %v", text, got, code)
		}
		if other, ok := texts[text]; ok && !same(other, c) {
			t.Fatalf("P25.3: %v and %v have the same text", other, c)
		}
		texts[text] = c
	}
}

// What isn't the text of a record isn't read, whatever is changed in one.
func TestChangedTexts(t *testing.T) {
	r := rand.New(rand.NewSource(38))
	for range 20000 {
		b := []byte(trace.Text(some(r)))
		at := r.Intn(len(b))
		switch r.Intn(3) {
		case 0:
			b[at] = "0123459ts.+/!=da"[r.Intn(16)]
		case 1:
			b = slices.Delete(b, at, at+1)
		case 2:
			b = slices.Insert(b, at, "0123459ts.+/!=da"[r.Intn(16)])
		}
		got, code := trace.Parse(string(b))
		if code == api.OK && trace.Text(got) != string(b) || code != api.OK && code != api.Malformed {
			t.Fatalf("P25.3: Parse(%q): %v, %v", b, got, code)
		}
	}
}

// A kernel's own words are read, and come to what it did.
func TestOfAKernel(t *testing.T) {
	k, code := kern.New(api.Config{
		Tasks:   []api.Work{{Prio: 1, Cost: 2, Period: 10, Dead: 5}},
		Loads:   []api.Server{{Budget: 4, Period: 4}},
		Lines:   []api.Line{{Count: 1, Depth: 1, Every: 1, Storm: 1, Span: 1}},
		Classes: []api.Class{{Size: 8, Count: 1}},
		Ring:    1,
		Cost:    1,
	})
	if code != api.OK {
		t.Fatal(code)
	}
	var ticks []string
	for _, line := range []string{"release 0 2", "wake 0 6", "get 8", "submit 3 0 4 0 0 0 8", "tick 5", "tick 4", "release 0 9", "tick 1", "release 0 9", "tick 6"} {
		if answer := k.Line(line); strings.HasPrefix(line, "tick") {
			ticks = append(ticks, answer)
		}
	}
	list, code := trace.All(strings.Join(ticks, "\n"))
	want := api.Total{Ticks: 16, Idle: 6, Worked: 4, Served: 6, Done: 1, Cut: 1, Missed: 1, Good: 0, Bad: 1}
	if sum := trace.Sum(list); sum != want || code != api.OK {
		t.Errorf("P25.2: Sum of %v: %v, %v, not %v", strconv.Quote(strings.Join(ticks, " ")), sum, code, want)
	}
}
