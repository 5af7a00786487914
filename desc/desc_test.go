package desc_test

import (
	"bytes"
	"math/rand"
	"testing"

	"linchpin/api"
	"linchpin/desc"
)

// full is a descriptor in which no two parts are alike.
var full = api.Desc{Op: 5, Req: 0x0102, Buf: api.Handle{Slot: 0x0304, Gen: 0x05060708}, From: 0x090a, Len: 0xfedc, Device: true, Done: true, Status: 0xee}

func TestMay(t *testing.T) {
	for i, c := range []struct {
		change func(d *api.Desc)
		ok     bool
	}{
		{func(d *api.Desc) {}, true},
		{func(d *api.Desc) { *d = api.Desc{} }, true},
		{func(d *api.Desc) { d.Op = -1 }, false},
		{func(d *api.Desc) { d.Op = 15 }, true},
		{func(d *api.Desc) { d.Op = 16 }, false},
		{func(d *api.Desc) { d.Req = -1 }, false},
		{func(d *api.Desc) { d.Req = 65535 }, true},
		{func(d *api.Desc) { d.Req = 65536 }, false},
		{func(d *api.Desc) { d.Buf.Slot = -1 }, false},
		{func(d *api.Desc) { d.Buf.Slot = 65535 }, true},
		{func(d *api.Desc) { d.Buf.Slot = 65536 }, false},
		{func(d *api.Desc) { d.Buf.Gen = 1<<32 - 1 }, true},
		{func(d *api.Desc) { d.Buf.Gen = 1 << 32 }, false},
		{func(d *api.Desc) { d.Buf.Gen = 1<<64 - 1 }, false},
		{func(d *api.Desc) { d.From = -1 }, false},
		{func(d *api.Desc) { d.From = 65535 }, true},
		{func(d *api.Desc) { d.From = 65536 }, false},
		{func(d *api.Desc) { d.Len = -1 }, false},
		{func(d *api.Desc) { d.Len = 65536 }, true},
		{func(d *api.Desc) { d.Len = 65537 }, false},
		{func(d *api.Desc) { d.Status = -1 }, false},
		{func(d *api.Desc) { d.Status = 255 }, true},
		{func(d *api.Desc) { d.Status = 256 }, false},
		{func(d *api.Desc) { d.Done = false }, false},
		{func(d *api.Desc) { d.Done, d.Status = false, 0 }, true},
		{func(d *api.Desc) { d.Device = false }, true},
		{func(d *api.Desc) { d.Op = -1 << 63 }, false},
		{func(d *api.Desc) { d.Len = 1<<63 - 1 }, false},
	} {
		d := full
		c.change(&d)
		if ok := desc.May(d); ok != c.ok {
			t.Errorf("P9.1: May of %v: %v", i, ok)
		}
		b := desc.Bytes(d)
		if !c.ok && len(b) != 0 || c.ok && len(b) != 20 {
			t.Errorf("P9.1: Bytes of %v: %v", i, b)
		}
		if again, code := desc.FromBytes(b); c.ok && (again != d || code != api.OK) || !c.ok && (again != api.Desc{} || code != api.Malformed) {
			t.Errorf("P9.2: %v is read again: %v, %v", i, again, code)
		}
	}
}

func TestBytes(t *testing.T) {
	ahead := []byte{5 + 16 + 32, 0xee, 1, 2, 3, 4, 5, 6, 7, 8, 9, 10, 0, 0, 0xfe, 0xdc, 0}
	sum := 0
	for i, c := range ahead {
		sum += int(c) * (i + 1)
	}
	want := append(ahead, byte(sum>>16), byte(sum>>8), byte(sum))
	if b := desc.Bytes(full); !bytes.Equal(b, want) {
		t.Errorf("P9.1: Bytes: %v, not %v", b, want)
	}
	if b := desc.Bytes(api.Desc{}); !bytes.Equal(b, make([]byte, 20)) {
		t.Errorf("P9.1: Bytes of an empty one: %v", b)
	}
	for _, c := range []struct {
		d     api.Desc
		first byte
	}{{api.Desc{Op: 15}, 15}, {api.Desc{Op: 1, Device: true}, 17}, {api.Desc{Op: 2, Done: true}, 34}} {
		if b := desc.Bytes(c.d); b[0] != c.first {
			t.Errorf("P9.1: the first byte of %v: %v", c.d, b[0])
		}
	}
}

func TestCheck(t *testing.T) {
	for _, c := range []struct {
		b     []byte
		check uint32
	}{
		{nil, 0},
		{[]byte{7}, 7},
		{[]byte{0, 7}, 14},
		{[]byte{1, 2, 3}, 14},
		{bytes.Repeat([]byte{255}, 17), 255 * 17 * 18 / 2},
		{bytes.Repeat([]byte{255}, 400), 255 * 400 * 401 / 2 % (1 << 24)},
		{append(make([]byte, 1<<16-1), 255), 255 << 16},
		{append(make([]byte, 1<<17-1), 255), 255 << 17 % (1 << 24)},
	} {
		if check := desc.Check(c.b); check != c.check {
			t.Errorf("P9.1: Check of %v bytes: %v, not %v", len(c.b), check, c.check)
		}
	}
}

func TestMalformed(t *testing.T) {
	b := desc.Bytes(full)
	for _, l := range [][]byte{nil, {}, b[:19], append(bytes.Clone(b), 0), bytes.Repeat([]byte{0}, 40), make([]byte, 19), make([]byte, 21)} {
		if d, code := desc.FromBytes(l); d != (api.Desc{}) || code != api.Malformed {
			t.Errorf("P9.1: FromBytes of %v bytes: %v, %v", len(l), d, code)
		}
	}
	// Bytes whose check is right, but of which no descriptor is made.
	for _, c := range []struct {
		at   int
		byte byte
	}{{0, 64 + 32}, {0, 128 + 32}, {0, 5}, {12, 1}, {13, 1}, {16, 1}} {
		wrong := bytes.Clone(b)
		wrong[c.at] = c.byte
		if c.at == 13 {
			wrong[14], wrong[15] = 0, 1
		}
		check := desc.Check(wrong[:17])
		wrong[17], wrong[18], wrong[19] = byte(check>>16), byte(check>>8), byte(check)
		if d, code := desc.FromBytes(wrong); d != (api.Desc{}) || code != api.Malformed {
			t.Errorf("P9.1: FromBytes with %v at %v: %v, %v", c.byte, c.at, d, code)
		}
	}
}

func some(r *rand.Rand) api.Desc {
	d := api.Desc{Op: r.Intn(16), Req: r.Intn(65536), Buf: api.Handle{Slot: r.Intn(65536), Gen: uint64(r.Uint32())}, From: r.Intn(65536), Len: r.Intn(65537), Device: r.Intn(2) > 0, Done: r.Intn(2) > 0}
	if d.Done {
		d.Status = r.Intn(256)
	}
	return d
}

func TestToldAndReadAgain(t *testing.T) {
	r := rand.New(rand.NewSource(11))
	for range 2000 {
		d := some(r)
		b := desc.Bytes(d)
		before := bytes.Clone(b)
		if again, code := desc.FromBytes(b); again != d || code != api.OK {
			t.Fatalf("P9.2: %v is read again: %v, %v", d, again, code)
		}
		if !bytes.Equal(b, before) {
			t.Fatal("P9.1: what was handed in is changed")
		}
		if other := some(r); other != d && bytes.Equal(desc.Bytes(other), b) {
			t.Fatalf("P9.2: %v and %v have the same bytes", d, other)
		}
	}
}

func TestAnyByteTurned(t *testing.T) {
	r := rand.New(rand.NewSource(12))
	for _, d := range []api.Desc{{}, full, some(r), some(r)} {
		for at := range 20 {
			for by := 1; by < 256; by++ {
				b := desc.Bytes(d)
				b[at] ^= byte(by)
				if again, code := desc.FromBytes(b); code == api.OK && again == d || code != api.OK && (code != api.Malformed || again != api.Desc{}) {
					t.Fatalf("P9.2: %v with byte %v turned: %v, %v", d, at, again, code)
				}
			}
		}
	}
}
