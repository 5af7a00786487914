package pieces_test

import (
	"bytes"
	"math/rand"
	"slices"
	"testing"

	"linchpin/api"
	"linchpin/pieces"
	"linchpin/pool"
)

// made tells a pool of four buffers of 8 bytes, and the handles of all.
func made(t *testing.T) (*pool.Pool, []api.Handle) {
	t.Helper()
	p, code := pool.New([]api.Class{{Size: 8, Count: 4}})
	if code != api.OK {
		t.Fatal(code)
	}
	var all []api.Handle
	for range 4 {
		h, _ := p.Get(8)
		all = append(all, h)
	}
	return p, all
}

func piece(h api.Handle, from, n int) api.Piece { return api.Piece{Buf: h, From: from, Len: n} }

func TestMay(t *testing.T) {
	p, h := made(t)
	var many []api.Piece
	for i := range 17 {
		many = append(many, piece(h[i/8], i%8, 1))
	}
	old := h[3]
	p.Drop(old)
	for i, c := range []struct {
		l  []api.Piece
		ok bool
	}{
		{nil, false},
		{[]api.Piece{}, false},
		{[]api.Piece{piece(h[0], 0, 8)}, true},
		{[]api.Piece{piece(h[0], 7, 1)}, true},
		{[]api.Piece{piece(h[0], 0, 0)}, false},
		{[]api.Piece{piece(h[0], 3, -1)}, false},
		{[]api.Piece{piece(h[0], -1, 3)}, false},
		{[]api.Piece{piece(h[0], 0, 9)}, false},
		{[]api.Piece{piece(h[0], 8, 1)}, false},
		{[]api.Piece{piece(h[0], 1, 8)}, false},
		{[]api.Piece{piece(h[0], 1, 1<<63-1)}, false},
		{[]api.Piece{piece(h[0], 1<<63-1, 1)}, false},
		{[]api.Piece{piece(old, 0, 1)}, false},
		{[]api.Piece{piece(api.Handle{Slot: 3, Gen: 2}, 0, 1)}, false},
		{[]api.Piece{piece(api.Handle{Slot: 4, Gen: 1}, 0, 1)}, false},
		{[]api.Piece{piece(h[0], 0, 3), piece(h[0], 3, 3)}, true},
		{[]api.Piece{piece(h[0], 3, 3), piece(h[0], 0, 3)}, true},
		{[]api.Piece{piece(h[0], 0, 4), piece(h[0], 3, 3)}, false},
		{[]api.Piece{piece(h[0], 3, 3), piece(h[0], 0, 4)}, false},
		{[]api.Piece{piece(h[0], 0, 8), piece(h[0], 3, 1)}, false},
		{[]api.Piece{piece(h[0], 3, 1), piece(h[1], 0, 8), piece(h[0], 0, 8)}, false},
		{[]api.Piece{piece(h[0], 0, 8), piece(h[1], 0, 8)}, true},
		{[]api.Piece{piece(h[0], 0, 8), piece(old, 0, 8)}, false},
		{many[:16], true},
		{many, false},
	} {
		if ok := pieces.May(p, c.l); ok != c.ok {
			t.Errorf("P8.1: May of list %v: %v", i, ok)
		}
		b, code := pieces.Gather(p, c.l)
		if (code == api.OK) != c.ok || len(b) > 0 != c.ok || !c.ok && code != api.Arg {
			t.Errorf("P8.2: Gather of list %v: %v, %v", i, b, code)
		}
		n, code := pieces.Scatter(p, c.l, api.Task, []byte{1})
		if c.ok && (n != 1 || code != api.OK) || !c.ok && (n != 0 || code != api.Arg) {
			t.Errorf("P8.2: Scatter of list %v: %v, %v", i, n, code)
		}
		if code := pieces.Give(p, c.l, api.Task, api.Ring); (code == api.OK) != c.ok || !c.ok && code != api.Arg {
			t.Errorf("P8.2: Give of list %v: %v", i, code)
		}
		pieces.Give(p, c.l, api.Ring, api.Task)
	}
}

func TestLenAndFind(t *testing.T) {
	_, h := made(t)
	l := []api.Piece{piece(h[0], 5, 3), piece(h[1], 0, 0), piece(h[2], 4, -2), piece(h[1], 2, 2), piece(h[0], 90, 1)}
	if n := pieces.Len(l); n != 6 {
		t.Errorf("P8.1: Len: %v", n)
	}
	for _, c := range []struct {
		at, no, in int
		code       api.Code
	}{
		{0, 0, 5, api.OK}, {1, 0, 6, api.OK}, {2, 0, 7, api.OK}, {3, 3, 2, api.OK}, {4, 3, 3, api.OK}, {5, 4, 90, api.OK},
		{6, 0, 0, api.NotFound}, {-1, 0, 0, api.NotFound}, {1<<63 - 1, 0, 0, api.NotFound}, {-1 << 63, 0, 0, api.NotFound},
	} {
		if no, in, code := pieces.Find(l, c.at); no != c.no || in != c.in || code != c.code {
			t.Errorf("P8.1: Find(%v): %v, %v, %v", c.at, no, in, code)
		}
	}
	if pieces.Len(nil) != 0 {
		t.Error("P8.1: Len of none")
	}
	if _, _, code := pieces.Find(nil, 0); code != api.NotFound {
		t.Errorf("P8.1: Find in none: %v", code)
	}
	great := []api.Piece{piece(h[0], 0, 1<<40), piece(h[0], 3, 1<<40)}
	if n := pieces.Len(great); n != 1<<41 {
		t.Errorf("P8.1: Len of great ones: %v", n)
	}
	if no, in, code := pieces.Find(great, 1<<40+2); no != 1 || in != 5 || code != api.OK {
		t.Errorf("P8.1: Find in great ones: %v, %v, %v", no, in, code)
	}
}

func TestBufs(t *testing.T) {
	_, h := made(t)
	other := api.Handle{Slot: h[0].Slot, Gen: 9}
	l := []api.Piece{piece(h[2], 0, 1), piece(h[0], 0, 0), piece(h[2], 4, 1), piece(other, 0, -1), piece(h[0], 9, 9), piece(h[1], 0, 1)}
	if bufs := pieces.Bufs(l); !slices.Equal(bufs, []api.Handle{h[2], h[0], other, h[1]}) {
		t.Errorf("P8.1: Bufs: %v", bufs)
	}
	if len(pieces.Bufs(nil)) != 0 {
		t.Error("P8.1: Bufs of none")
	}
}

func TestExample(t *testing.T) {
	p, h := made(t)
	l := []api.Piece{piece(h[1], 5, 3), piece(h[0], 1, 3)}
	if n, code := pieces.Scatter(p, l, api.Task, []byte{1, 2, 3, 4, 5}); n != 5 || code != api.OK {
		t.Errorf("P8.2: Scatter: %v, %v", n, code)
	}
	for i, want := range [][]byte{{0, 4, 5, 0, 0, 0, 0, 0}, {0, 0, 0, 0, 0, 1, 2, 3}} {
		if b, _ := p.Read(h[i], 0, 8); !bytes.Equal(b, want) {
			t.Errorf("P8.2: buffer %v: %v", i, b)
		}
	}
	if b, code := pieces.Gather(p, l); !bytes.Equal(b, []byte{1, 2, 3, 4, 5, 0}) || code != api.OK {
		t.Errorf("P8.2: Gather: %v, %v", b, code)
	}
	if n, code := pieces.Scatter(p, l, api.Task, []byte{9, 8, 7, 6, 5, 4, 3, 2}); n != 6 || code != api.OK {
		t.Errorf("P8.2: Scatter of too many: %v, %v", n, code)
	}
	if b, _ := pieces.Gather(p, l); !bytes.Equal(b, []byte{9, 8, 7, 6, 5, 4}) {
		t.Errorf("P8.2: Gather: %v", b)
	}
	if n, code := pieces.Scatter(p, l, api.Task, nil); n != 0 || code != api.OK {
		t.Errorf("P8.2: Scatter of nothing: %v, %v", n, code)
	}
}

func TestOwners(t *testing.T) {
	p, h := made(t)
	l := []api.Piece{piece(h[0], 0, 2), piece(h[1], 0, 2), piece(h[0], 4, 2)}
	p.Give(h[1], api.Task, api.Device)
	for _, by := range []int{api.Task, api.Device, api.Ring, api.Free, -1, 4} {
		if n, code := pieces.Scatter(p, l, by, []byte{1}); n != 0 || code != api.Owner {
			t.Errorf("P8.2: Scatter by %v: %v, %v", by, n, code)
		}
	}
	if b, _ := pieces.Gather(p, l); !bytes.Equal(b, make([]byte, 6)) {
		t.Errorf("P8.2: something is written: %v", b)
	}
	for _, c := range []struct {
		from, to int
		code     api.Code
	}{
		{api.Task, api.Ring, api.Owner}, {api.Device, api.Task, api.Owner}, {api.Ring, api.Task, api.Owner},
		{api.Task, api.Task, api.Arg}, {api.Free, api.Task, api.Arg}, {api.Task, 4, api.Arg}, {api.Ring, api.Free, api.Arg},
	} {
		if code := pieces.Give(p, l, c.from, c.to); code != c.code {
			t.Errorf("P8.2: Give from %v to %v: %v", c.from, c.to, code)
		}
		a, _, _ := p.Owner(h[0])
		b, _, _ := p.Owner(h[1])
		if a != api.Task || b != api.Device {
			t.Fatalf("P8.2: some are given: %v, %v", a, b)
		}
	}
	p.Give(h[1], api.Device, api.Task)
	if code := pieces.Give(p, l, api.Task, api.Device); code != api.OK {
		t.Errorf("P8.2: Give: %v", code)
	}
	for i := range 3 {
		if owner, _, _ := p.Owner(h[i]); (owner == api.Device) != (i < 2) {
			t.Errorf("P8.2: buffer %v is %v's", i, owner)
		}
	}
	if n, code := pieces.Scatter(p, l, api.Device, []byte{1, 2, 3}); n != 3 || code != api.OK {
		t.Errorf("P8.2: Scatter by the device: %v, %v", n, code)
	}
}

func TestScatteredIsGathered(t *testing.T) {
	r := rand.New(rand.NewSource(10))
	for range 300 {
		p, h := made(t)
		var l []api.Piece
		for range 1 + r.Intn(6) {
			l = append(l, piece(h[r.Intn(4)], r.Intn(8), 1+r.Intn(3)))
		}
		before := slices.Clone(l)
		if !pieces.May(p, l) {
			continue
		}
		b := make([]byte, r.Intn(20))
		for i := range b {
			b[i] = byte(1 + r.Intn(255))
		}
		n, code := pieces.Scatter(p, l, api.Task, b)
		if n != min(len(b), pieces.Len(l)) || code != api.OK {
			t.Fatalf("P8.2: Scatter: %v, %v", n, code)
		}
		all, _ := pieces.Gather(p, l)
		if len(all) != pieces.Len(l) || !bytes.Equal(all[:n], b[:n]) {
			t.Fatalf("P8.3: %v is scattered, %v gathered", b, all)
		}
		for at := range all {
			no, in, code := pieces.Find(l, at)
			if code != api.OK || no < 0 || no >= len(l) {
				t.Fatalf("P8.1: Find(%v): %v, %v, %v", at, no, in, code)
			}
			if b, _ := p.Read(l[no].Buf, in, 1); !bytes.Equal(b, all[at:at+1]) {
				t.Fatalf("P8.1: the byte at %v: %v, not %v", at, b, all[at])
			}
		}
		if !slices.Equal(l, before) {
			t.Fatal("P8.1: what was handed in is changed")
		}
	}
}
