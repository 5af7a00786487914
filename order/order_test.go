package order_test

import (
	"cmp"
	"math/rand"
	"slices"
	"testing"

	"linchpin/api"
	"linchpin/order"
)

func want(id int, dead uint64, track int) api.Want {
	return api.Want{ID: id, Dead: dead, Track: track}
}

func is(t *testing.T, what string, code, want api.Code) {
	t.Helper()
	if code != want {
		t.Errorf("%v: %v, not %v", what, code, want)
	}
}

func head(t *testing.T, q *order.Queue, track int, up bool) {
	t.Helper()
	if gotTrack, gotUp := q.Head(); gotTrack != track || gotUp != up {
		t.Errorf("P18.2: Head: %v, %v, not %v, %v", gotTrack, gotUp, track, up)
	}
}

// take looks at the next one, and takes it.
func take(t *testing.T, q *order.Queue, want api.Want, up bool) {
	t.Helper()
	track, was := q.Head()
	if w, code := q.Next(); w != want || code != api.OK {
		t.Errorf("P18.2: Next: %v, %v, not %v", w, code, want)
	}
	head(t, q, track, was)
	if w, code := q.Take(); w != want || code != api.OK {
		t.Errorf("P18.2: Take: %v, %v, not %v", w, code, want)
	}
	head(t, q, want.Track, up)
}

func TestMay(t *testing.T) {
	for _, c := range []struct {
		w  api.Want
		ok bool
	}{
		{want(0, 0, 0), true},
		{want(65535, api.Last-1, 1<<20), true},
		{want(-1, 5, 5), false},
		{want(65536, 5, 5), false},
		{want(5, api.Last, 5), false},
		{want(5, 1<<64-1, 5), false},
		{want(5, 5, -1), false},
		{want(5, 5, 1<<20+1), false},
		{want(-1<<63, 5, 5), false},
		{want(5, 5, 1<<63-1), false},
	} {
		if ok := order.May(c.w); ok != c.ok {
			t.Errorf("P18.1: May(%v): %v", c.w, ok)
		}
		q := order.New()
		if code := q.Add(c.w); (code == api.OK) != c.ok || !c.ok && code != api.Arg || (len(q.All()) > 0) != c.ok {
			t.Errorf("P18.1: Add(%v): %v", c.w, code)
		}
	}
}

func TestAddAndDrop(t *testing.T) {
	q := order.New()
	head(t, q, 0, true)
	for id := range 64 {
		is(t, "P18.1: Drop of none", q.Drop(id), api.NotFound)
		is(t, "P18.1: Add", q.Add(want(id, uint64(100-id), id)), api.OK)
		is(t, "P18.1: Add, again", q.Add(want(id, 5, 5)), api.Exists)
	}
	is(t, "P18.1: Add to 64", q.Add(want(64, 5, 5)), api.Full)
	is(t, "P18.1: Add of one that is there to 64", q.Add(want(3, 5, 5)), api.Exists)
	is(t, "P18.1: Add of what may not be to 64", q.Add(want(64, 5, -1)), api.Arg)
	is(t, "P18.1: Drop", q.Drop(63), api.OK)
	is(t, "P18.1: Drop, again", q.Drop(63), api.NotFound)
	is(t, "P18.1: Drop of no number", q.Drop(-1), api.NotFound)
	is(t, "P18.1: Add", q.Add(want(64, 5, 5)), api.OK)
	take(t, q, want(64, 5, 5), true)
	take(t, q, want(62, 38, 62), true)
}

func TestEmpty(t *testing.T) {
	q := order.New()
	for range 2 {
		if w, code := q.Next(); w != (api.Want{}) || code != api.Empty {
			t.Errorf("P18.2: Next of none: %v, %v", w, code)
		}
		if w, code := q.Take(); w != (api.Want{}) || code != api.Empty {
			t.Errorf("P18.2: Take of none: %v, %v", w, code)
		}
		if len(q.All()) != 0 {
			t.Errorf("P18.2: All of none: %v", q.All())
		}
		head(t, q, 0, true)
	}
}

func TestExample(t *testing.T) {
	q := order.New()
	q.Add(want(9, 1, 5))
	take(t, q, want(9, 1, 5), true)
	q.Add(want(1, 4, 7))
	q.Add(want(2, 4, 3))
	q.Add(want(3, 4, 9))
	take(t, q, want(1, 4, 7), true)
	take(t, q, want(3, 4, 9), true)
	take(t, q, want(2, 4, 3), false)
	// Going down, one above the head is next only when there is none below.
	q.Add(want(4, 4, 8))
	q.Add(want(5, 4, 3))
	q.Add(want(6, 4, 6))
	take(t, q, want(5, 4, 3), false)
	take(t, q, want(6, 4, 6), true)
	take(t, q, want(4, 4, 8), true)
}

func TestAlikeTracks(t *testing.T) {
	q := order.New()
	for _, id := range []int{5, 3, 4} {
		q.Add(want(id, 9, 10))
	}
	take(t, q, want(3, 9, 10), true)
	take(t, q, want(4, 9, 10), true)
	q.Add(want(7, 9, 2))
	q.Add(want(6, 9, 2))
	take(t, q, want(5, 9, 10), true)
	take(t, q, want(6, 9, 2), false)
	take(t, q, want(7, 9, 2), false)
}

func TestTheirTimesComeFirst(t *testing.T) {
	q := order.New()
	q.Add(want(1, 20, 1))
	q.Add(want(2, 10, 500))
	q.Add(want(3, 20, 499))
	take(t, q, want(2, 10, 500), true)
	take(t, q, want(3, 20, 499), false)
	take(t, q, want(1, 20, 1), false)
}

func TestAll(t *testing.T) {
	q := order.New()
	for _, w := range []api.Want{want(4, 9, 1), want(2, 5, 7), want(3, 5, 2), want(9, 5, 7), want(1, 5, 7)} {
		q.Add(w)
	}
	sorted := []api.Want{want(3, 5, 2), want(1, 5, 7), want(2, 5, 7), want(9, 5, 7), want(4, 9, 1)}
	all := q.All()
	if !slices.Equal(all, sorted) {
		t.Errorf("P18.2: All: %v", all)
	}
	all[0].Dead = 0
	if !slices.Equal(q.All(), sorted) {
		t.Errorf("P18.2: All, written over: %v", q.All())
	}
}

// next tells the next one by the chapter's words, of a list sorted anew each time.
func next(list []api.Want, track int, up bool) (api.Want, bool) {
	l := slices.Clone(list)
	slices.SortFunc(l, func(a, b api.Want) int {
		return cmp.Or(cmp.Compare(a.Dead, b.Dead), cmp.Compare(a.Track, b.Track), cmp.Compare(a.ID, b.ID))
	})
	l = slices.DeleteFunc(l, func(w api.Want) bool { return w.Dead > l[0].Dead })
	for turn := 0; ; turn++ {
		if up {
			for _, w := range l {
				if w.Track >= track {
					return w, true
				}
			}
		} else {
			best := -1
			for i, w := range l {
				if w.Track <= track && (best < 0 || w.Track > l[best].Track) {
					best = i
				}
			}
			if best >= 0 {
				return l[best], false
			}
		}
		up = !up
	}
}

func TestAgainstModel(t *testing.T) {
	r := rand.New(rand.NewSource(25))
	for range 100 {
		q := order.New()
		var list []api.Want
		track, up := 0, true
		for range 200 {
			w := want(r.Intn(12), uint64(r.Intn(3)), r.Intn(8))
			at := slices.IndexFunc(list, func(o api.Want) bool { return o.ID == w.ID })
			switch r.Intn(5) {
			case 0, 1:
				code := api.Exists
				if at < 0 {
					code = api.OK
					list = append(list, w)
				}
				is(t, "P18.1: Add", q.Add(w), code)
			case 2:
				code := api.NotFound
				if at >= 0 {
					code = api.OK
					list = slices.Delete(list, at, at+1)
				}
				is(t, "P18.1: Drop", q.Drop(w.ID), code)
			case 3, 4:
				if len(list) == 0 {
					break
				}
				n, way := next(list, track, up)
				take(t, q, n, way)
				track, up = n.Track, way
				list = slices.DeleteFunc(list, func(o api.Want) bool { return o == n })
				for _, o := range list {
					if o.Dead < n.Dead {
						t.Errorf("P18.3: %v is taken ahead of %v", n, o)
					}
				}
			}
			if len(q.All()) != len(list) {
				t.Errorf("P18.2: All: %v, not %v", q.All(), list)
			}
			if t.Failed() {
				t.FailNow()
			}
		}
	}
}

func TestAtMostTwoTurns(t *testing.T) {
	r := rand.New(rand.NewSource(26))
	for range 200 {
		q := order.New()
		q.Add(want(100, 0, 50))
		q.Add(want(101, 1, r.Intn(100)))
		q.Take()
		q.Take()
		n := 1 + r.Intn(30)
		for id := range n {
			q.Add(want(id, 7, r.Intn(100)))
		}
		turns := 0
		_, up := q.Head()
		for range n {
			q.Take()
			if _, now := q.Head(); now != up {
				turns++
				up = now
			}
		}
		if turns > 2 || len(q.All()) != 0 {
			t.Fatalf("P18.3: %v turns, %v left", turns, len(q.All()))
		}
	}
}
