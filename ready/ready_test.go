package ready_test

import (
	"math/rand"
	"slices"
	"testing"

	"linchpin/api"
	"linchpin/ready"
)

func is(t *testing.T, what string, code, want api.Code) {
	t.Helper()
	if code != want {
		t.Errorf("%v: %v, not %v", what, code, want)
	}
}

func stand(t *testing.T, q *ready.Queue, want ...int) {
	t.Helper()
	if all := q.All(); !slices.Equal(all, want) {
		t.Errorf("P15.2: All: %v, not %v", all, want)
	}
}

func first(t *testing.T, q *ready.Queue, want, wantPrio int, wantCode api.Code) {
	t.Helper()
	if id, prio, code := q.First(); id != want || prio != wantPrio || code != wantCode {
		t.Errorf("P15.2: First: %v, %v, %v, not %v, %v, %v", id, prio, code, want, wantPrio, wantCode)
	}
}

func TestExample(t *testing.T) {
	q := ready.New()
	first(t, q, 0, 0, api.Empty)
	stand(t, q)
	q.Come(3, 5)
	q.Come(1, 5)
	q.Come(2, 4)
	stand(t, q, 2, 3, 1)
	first(t, q, 2, 4, api.OK)
}

func TestCodes(t *testing.T) {
	q := ready.New()
	for _, c := range []struct{ id, prio int }{{-1, 5}, {64, 5}, {1 << 62, 5}, {-1 << 63, 5}, {3, -1}, {3, 101}, {3, 1 << 62}, {3, -1 << 63}} {
		is(t, "P15.1: Come", q.Come(c.id, c.prio), api.Arg)
		is(t, "P15.1: Change", q.Change(c.id, c.prio), api.Arg)
	}
	for _, id := range []int{-1 << 63, -1, 0, 63, 64, 1 << 62} {
		is(t, "P15.1: Go", q.Go(id), api.NotFound)
	}
	is(t, "P15.1: Change of none", q.Change(3, 5), api.NotFound)
	is(t, "P15.1: Come", q.Come(0, 0), api.OK)
	is(t, "P15.1: Come", q.Come(63, 100), api.OK)
	is(t, "P15.1: Come, again", q.Come(63, 100), api.Exists)
	is(t, "P15.1: Come, again", q.Come(63, 3), api.Exists)
	is(t, "P15.1: Come, again, with no urgency", q.Come(63, 101), api.Arg)
	is(t, "P15.1: Change of one with no urgency", q.Change(63, 101), api.Arg)
	stand(t, q, 0, 63)
	is(t, "P15.1: Go", q.Go(0), api.OK)
	is(t, "P15.1: Go, again", q.Go(0), api.NotFound)
	first(t, q, 63, 100, api.OK)
	is(t, "P15.1: Go", q.Go(63), api.OK)
	first(t, q, 0, 0, api.Empty)
}

func TestChange(t *testing.T) {
	q := ready.New()
	for id := range 5 {
		q.Come(id, 7)
	}
	is(t, "P15.1: Change to the same", q.Change(1, 7), api.OK)
	stand(t, q, 0, 1, 2, 3, 4)
	is(t, "P15.1: Change to a lesser number", q.Change(3, 6), api.OK)
	stand(t, q, 3, 0, 1, 2, 4)
	is(t, "P15.1: Change back", q.Change(3, 7), api.OK)
	stand(t, q, 0, 1, 2, 4, 3)
	is(t, "P15.1: Change to a greater number", q.Change(0, 8), api.OK)
	q.Go(2)
	q.Come(2, 7)
	stand(t, q, 1, 4, 3, 2, 0)
}

func TestAnswersAreNew(t *testing.T) {
	q := ready.New()
	q.Come(3, 5)
	q.Come(4, 5)
	q.All()[0] = 9
	stand(t, q, 3, 4)
}

type member struct{ id, prio int }

// line is a queue as plainly as can be: one list, in which each comes behind all that are as urgent or more.
type line []member

func (l line) come(m member) line {
	at := 0
	for at < len(l) && l[at].prio <= m.prio {
		at++
	}
	return slices.Insert(l, at, m)
}

func (l line) place(id int) int {
	return slices.IndexFunc(l, func(m member) bool { return m.id == id })
}

// P15.3 follows from what a line does.
func TestAgainstModel(t *testing.T) {
	r := rand.New(rand.NewSource(21))
	q := ready.New()
	var l line
	for range 20000 {
		id, prio := r.Intn(12), r.Intn(5)*25
		at := l.place(id)
		switch r.Intn(3) {
		case 0:
			want := api.OK
			if at >= 0 {
				want = api.Exists
			} else {
				l = l.come(member{id, prio})
			}
			is(t, "P15.1: Come", q.Come(id, prio), want)
		case 1:
			want := api.NotFound
			if at >= 0 {
				want = api.OK
				l = slices.Delete(l, at, at+1)
			}
			is(t, "P15.1: Go", q.Go(id), want)
		case 2:
			want := api.NotFound
			if at >= 0 {
				want = api.OK
				if l[at].prio != prio {
					l = slices.Delete(l, at, at+1).come(member{id, prio})
				}
			}
			is(t, "P15.1: Change", q.Change(id, prio), want)
		}
		var ids []int
		for _, m := range l {
			ids = append(ids, m.id)
		}
		stand(t, q, ids...)
		if len(l) > 0 {
			first(t, q, l[0].id, l[0].prio, api.OK)
		}
		if t.Failed() {
			t.FailNow()
		}
	}
}
