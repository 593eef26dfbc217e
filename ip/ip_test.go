package ip

import (
	"bytes"
	"encoding/binary"
	"testing"

	"stolon/api"
)

// known are headers and bytes with their frames, worked out by hand.
var known = []struct {
	h    api.Header
	b, f []byte
}{
	{api.Header{}, nil, []byte{69, 0, 0, 20, 0, 0, 0, 0, 0, 0, 186, 235, 0, 0, 0, 0, 0, 0, 0, 0}},
	{api.Header{Alert: true}, nil, []byte{70, 0, 0, 24, 0, 0, 0, 0, 0, 0, 37, 227, 0, 0, 0, 0, 0, 0, 0, 0, 148, 4, 0, 0}},
	{
		api.Header{Src: 0xc0a8010a, Dst: 0xef010203, Proto: 17, Ttl: 64, Id: 0x1c46}, []byte{9, 8, 7, 6},
		[]byte{69, 0, 0, 24, 28, 70, 0, 0, 64, 17, 171, 216, 192, 168, 1, 10, 239, 1, 2, 3, 9, 8, 7, 6},
	},
	{
		api.Header{Src: 0x0a000001, Dst: 0xe0000001, Proto: 2, Ttl: 2, Id: 258, Alert: true}, []byte{1, 2, 3},
		[]byte{70, 0, 0, 27, 1, 2, 0, 0, 2, 2, 56, 217, 10, 0, 0, 1, 224, 0, 0, 1, 148, 4, 0, 0, 1, 2, 3},
	},
	// all bits of what is told
	{
		api.Header{Src: 0xffffffff, Dst: 0xffffffff, Proto: 255, Ttl: 255, Id: 65535}, []byte{255},
		[]byte{69, 0, 0, 21, 255, 255, 0, 0, 255, 255, 186, 234, 255, 255, 255, 255, 255, 255, 255, 255, 255},
	},
	{
		api.Header{Src: 0xffffffff, Dst: 0xffffffff, Proto: 255, Ttl: 255, Id: 65535, Alert: true}, nil,
		[]byte{70, 0, 0, 24, 255, 255, 0, 0, 255, 255, 37, 227, 255, 255, 255, 255, 255, 255, 255, 255, 148, 4, 0, 0},
	},
	// a sum of 0, and those beside it
	{api.Header{Id: 0xbaea}, nil, []byte{69, 0, 0, 20, 186, 234, 0, 0, 0, 0, 0, 1, 0, 0, 0, 0, 0, 0, 0, 0}},
	{api.Header{Id: 0xbaeb}, nil, []byte{69, 0, 0, 20, 186, 235, 0, 0, 0, 0, 0, 0, 0, 0, 0, 0, 0, 0, 0, 0}},
	{api.Header{Id: 0xbaec}, nil, []byte{69, 0, 0, 20, 186, 236, 0, 0, 0, 0, 255, 254, 0, 0, 0, 0, 0, 0, 0, 0}},
	{api.Header{Id: 0x25e3, Alert: true}, nil, []byte{70, 0, 0, 24, 37, 227, 0, 0, 0, 0, 0, 0, 0, 0, 0, 0, 0, 0, 0, 0, 148, 4, 0, 0}},
	// what is in it may look like another frame
	{
		api.Header{Ttl: 1, Proto: 69}, []byte{69, 0, 0, 20, 148, 4, 0, 0},
		[]byte{69, 0, 0, 28, 0, 0, 0, 0, 1, 69, 185, 158, 0, 0, 0, 0, 0, 0, 0, 0, 69, 0, 0, 20, 148, 4, 0, 0},
	},
}

// headers are headers of many kinds, with Alert and without.
func headers(yield func(api.Header) bool) {
	for _, x := range known {
		for _, ttl := range []byte{0, 1, 2, 3, 128, 254, 255} {
			for _, alert := range []bool{false, true} {
				h := x.h
				h.Ttl, h.Alert = ttl, alert
				if !yield(h) {
					return
				}
			}
		}
	}
}

// sizeOf is how many bytes a header has.
func sizeOf(alert bool) int {
	if alert {
		return 24
	}
	return 20
}

// mixed are n bytes of all kinds.
func mixed(n int) []byte {
	b := make([]byte, n)
	for i := range b {
		b[i] = byte(i*i*7 + i*3 + i>>8 + 5)
	}
	return b
}

// mend puts the right sum into the header's bytes with which f begins, reckoned by what a division leaves.
func mend(f []byte, size int) []byte {
	m := bytes.Clone(f)
	copy(m[10:12], []byte{0, 0})
	n := 0
	for i := 0; i < size; i += 2 {
		n += int(binary.BigEndian.Uint16(m[i:]))
	}
	if n > 0 {
		n = (n-1)%65535 + 1
	}
	binary.BigEndian.PutUint16(m[10:], uint16(65535-n))
	return m
}

// told is a frame, made byte by byte.
func told(h api.Header, b []byte) []byte {
	f := make([]byte, sizeOf(h.Alert))
	f[0] = 69
	if h.Alert {
		f[0] = 70
		f[20], f[21] = 148, 4
	}
	binary.BigEndian.PutUint16(f[2:], uint16(len(f)+len(b)))
	binary.BigEndian.PutUint16(f[4:], h.Id)
	f[8], f[9] = h.Ttl, h.Proto
	binary.BigEndian.PutUint32(f[12:], uint32(h.Src))
	binary.BigEndian.PutUint32(f[16:], uint32(h.Dst))
	return append(mend(f, len(f)), b...)
}

// refused holds the answers of Decode and Passed at f against an error.
func refused(t *testing.T, f []byte, e0 api.Errno) {
	t.Helper()
	if h, b, e := Decode(f); e != e0 || h != (api.Header{}) || len(b) != 0 {
		t.Errorf("Decode(%v): %v %v %d, not %d", f, h, b, e, e0)
	}
	if p, e := Passed(f); e != e0 || len(p) != 0 {
		t.Errorf("Passed(%v): %v %d, not %d", f, p, e, e0)
	}
}

// TestEncodeP4_1: frames that are known.
func TestEncodeP4_1(t *testing.T) {
	for _, x := range known {
		if f, e := Encode(x.h, x.b); !bytes.Equal(f, x.f) || e != api.OK {
			t.Errorf("Encode(%v, %v): %v %d, not %v", x.h, x.b, f, e, x.f)
		}
	}
}

// TestEncodeEachP4_1: each thing that is told, by itself, at each value of a byte of it.
func TestEncodeEachP4_1(t *testing.T) {
	for n := range 256 {
		x := byte(n)
		hs := []api.Header{{Ttl: x}, {Proto: x}, {Id: uint16(x)}, {Id: uint16(x) << 8}}
		for shift := 0; shift < 32; shift += 8 {
			hs = append(hs, api.Header{Src: api.Addr(x) << shift}, api.Header{Dst: api.Addr(x) << shift, Alert: true})
		}
		for _, h := range hs {
			if f, e := Encode(h, []byte{x}); !bytes.Equal(f, told(h, []byte{x})) || e != api.OK {
				t.Errorf("Encode(%v, %d): %v %d, not %v", h, x, f, e, told(h, []byte{x}))
			}
		}
	}
}

// TestEncodeSizesP4_1: up to 1500 bytes in all, and no more.
func TestEncodeSizesP4_1(t *testing.T) {
	for h := range headers {
		most := 1500 - sizeOf(h.Alert)
		for _, n := range []int{0, 1, 2, 3, 231, 232, 235, 236, 237, 1000, most - 1, most} {
			b := mixed(n)
			if f, e := Encode(h, b); !bytes.Equal(f, told(h, b)) || e != api.OK {
				t.Errorf("Encode(%v, %d bytes): %v %d", h, n, f, e)
			}
		}
		for _, n := range []int{most + 1, most + 2, 1500, 1501, 65535, 65536, 65536 - sizeOf(h.Alert), 65537, 65536 + 100, 1 << 20} {
			if f, e := Encode(h, mixed(n)); len(f) != 0 || e != api.ErrFull {
				t.Errorf("Encode(%v, %d bytes): %v %d, not %d", h, n, f, e, api.ErrFull)
			}
		}
	}
}

// TestDecodeP4_2: frames that are known, alone and with others behind.
func TestDecodeP4_2(t *testing.T) {
	for _, x := range known {
		for _, behind := range [][]byte{nil, {0}, {69}, {255, 255}, x.f, mixed(2000)} {
			f := append(bytes.Clone(x.f), behind...)
			if h, b, e := Decode(f); h != x.h || !bytes.Equal(b, x.b) || e != api.OK {
				t.Errorf("Decode(%v): %v %v %d, not %v %v", f, h, b, e, x.h, x.b)
			}
		}
	}
}

// TestDecodeLessP4_2: whatever is missing at the end, there is more to come.
func TestDecodeLessP4_2(t *testing.T) {
	refused(t, nil, api.ErrMore)
	for h := range headers {
		f := told(h, mixed(30))
		for n := range f {
			refused(t, f[:n], api.ErrMore)
		}
	}
	f := told(api.Header{Ttl: 9}, mixed(1480))
	refused(t, f[:1499], api.ErrMore)
	if h, b, e := Decode(f); h.Ttl != 9 || len(b) != 1480 || e != api.OK {
		t.Errorf("Decode: %v, %d bytes, %d", h, len(b), e)
	}
}

// TestDecodeFirstP4_2: what begins with another byte than 69 or 70 isn't of the form, if it has 20 bytes, be it whole or not.
func TestDecodeFirstP4_2(t *testing.T) {
	for n := range 256 {
		if n == 69 || n == 70 {
			continue
		}
		for _, f := range [][]byte{told(api.Header{Ttl: 9}, nil), told(api.Header{Ttl: 9, Alert: true}, mixed(99))} {
			f[0] = byte(n)
			refused(t, f, api.ErrForm)
			refused(t, f[:20], api.ErrForm)
			refused(t, f[:19], api.ErrMore)
			refused(t, f[:1], api.ErrMore)
			refused(t, mend(f, 20), api.ErrForm)
			refused(t, mend(f, len(f)&^1), api.ErrForm)
		}
	}
}

// TestDecodeShortAlertP4_2: with Alert, 20 bytes are too few, even if they are whole.
func TestDecodeShortAlertP4_2(t *testing.T) {
	f := told(api.Header{Ttl: 9, Alert: true}, nil)
	for n := 20; n < 24; n++ {
		refused(t, f[:n], api.ErrMore)
		refused(t, mend(f[:n], 20), api.ErrMore)
	}
	f[1], f[2], f[20] = 1, 255, 0
	refused(t, f[:23], api.ErrMore)
}

// TestDecodeNotWholeP4_2: any one byte of the header that is another one makes it not whole; those of what is in it don't.
func TestDecodeNotWholeP4_2(t *testing.T) {
	for _, x := range known {
		for at := 1; at < sizeOf(x.h.Alert); at++ {
			for by := 1; by < 256; by++ {
				f := bytes.Clone(x.f)
				f[at] ^= byte(by)
				refused(t, f, api.ErrSum)
			}
		}
		for at := sizeOf(x.h.Alert); at < len(x.f); at++ {
			f := bytes.Clone(x.f)
			f[at] ^= 255
			if h, b, e := Decode(f); h != x.h || !bytes.Equal(b, f[sizeOf(x.h.Alert):]) || e != api.OK {
				t.Errorf("Decode(%v): %v %v %d", f, h, b, e)
			}
		}
	}
}

// TestDecodeOtherFirstP4_2: 69 and 70 in place of one another: then other bytes are the header.
func TestDecodeOtherFirstP4_2(t *testing.T) {
	f := told(api.Header{Ttl: 9}, mixed(30))
	f[0] = 70
	refused(t, f, api.ErrSum)
	refused(t, f[:23], api.ErrMore)
	refused(t, mend(f, 20), api.ErrSum)
	refused(t, mend(f, 24), api.ErrForm)
	f = told(api.Header{Ttl: 9, Alert: true}, mixed(30))
	f[0] = 69
	refused(t, f, api.ErrSum)
	f = mend(f, 20)
	if h, b, e := Decode(f); h != (api.Header{Ttl: 9}) || !bytes.Equal(b, f[20:]) || e != api.OK {
		t.Errorf("Decode(%v): %v %v %d", f, h, b, e)
	}
}

// TestDecodeFixedP4_2: the bytes that are 0, and those of Alert, are so; a header with others is whole, but not of the form.
func TestDecodeFixedP4_2(t *testing.T) {
	for h := range headers {
		places := []int{1, 6, 7}
		if h.Alert {
			places = append(places, 20, 21, 22, 23)
		}
		for _, at := range places {
			for by := 1; by < 256; by++ {
				f := told(h, mixed(5))
				f[at] ^= byte(by)
				refused(t, f, api.ErrSum)
				refused(t, mend(f, sizeOf(h.Alert)), api.ErrForm)
			}
		}
	}
}

// TestDecodeAllP4_2: how many bytes all has: no less than the header, no more than 1500, and no more than there are.
func TestDecodeAllP4_2(t *testing.T) {
	for _, alert := range []bool{false, true} {
		size := sizeOf(alert)
		h := api.Header{Src: 7, Ttl: 9, Alert: alert}
		for _, have := range []int{size, size + 1, 255, 256, 300, 1499, 1500, 1501, 70000} {
			f := told(h, mixed(have-size))
			for all := range 65536 {
				binary.BigEndian.PutUint16(f[2:], uint16(all))
				m := mend(f[:size], size)
				copy(f, m)
				var e0 api.Errno
				switch {
				case all < size || all > 1500:
					e0 = api.ErrForm
				case all > have:
					e0 = api.ErrMore
				}
				if g, b, e := Decode(f); e != e0 || e == api.OK && (g != h || !bytes.Equal(b, f[size:all])) {
					t.Fatalf("Decode of %d bytes, all %d: %v, %d bytes, %d, not %d", have, all, g, len(b), e, e0)
				}
			}
		}
	}
}

// TestDecodeSumP4_2: a sum of 65535 in place of 0 is whole, but isn't Encode's.
func TestDecodeSumP4_2(t *testing.T) {
	for _, x := range known {
		f := bytes.Clone(x.f)
		if f[10] != 0 || f[11] != 0 {
			continue
		}
		f[10], f[11] = 255, 255
		refused(t, f, api.ErrSum)
		refused(t, append(f, 1, 2, 3), api.ErrSum)
	}
	for h := range headers {
		// such an Id that the sum is 0
		h.Id = 0
		h.Id = binary.BigEndian.Uint16(told(h, []byte{1})[10:])
		f := told(h, []byte{1})
		if f[10] != 0 || f[11] != 0 {
			t.Fatalf("%v has another sum than 0", f)
		}
		if g, b, e := Decode(f); g != h || !bytes.Equal(b, []byte{1}) || e != api.OK {
			t.Errorf("Decode(%v): %v %v %d", f, g, b, e)
		}
		f[10], f[11] = 255, 255
		refused(t, f, api.ErrSum)
	}
}

// zeroSum is a frame whose sum is 0, but stands as 65535, with these bytes at places of its header, and as many bytes as size says.
func zeroSum(alert bool, size int, at map[int]byte) []byte {
	f := told(api.Header{Ttl: 1, Alert: alert}, nil)
	for i, x := range at {
		f[i] = x
	}
	m := mend(f, sizeOf(alert))
	f[4], f[5] = m[10], m[11]
	f[10], f[11] = 255, 255
	return append(f, mixed(100)...)[:size]
}

// TestDecodeOrderP4_2: where several things are wrong, the first one that the promise names is told.
func TestDecodeOrderP4_2(t *testing.T) {
	// too short, and all else wrong
	refused(t, []byte{0}, api.ErrMore)
	refused(t, bytes.Repeat([]byte{255}, 19), api.ErrMore)
	refused(t, make([]byte, 19), api.ErrMore)
	// the first byte, and all else wrong
	refused(t, bytes.Repeat([]byte{255}, 20), api.ErrForm)
	refused(t, make([]byte, 20), api.ErrForm)
	// less than the header, and all else wrong
	refused(t, append([]byte{70}, bytes.Repeat([]byte{255}, 22)...), api.ErrMore)
	// not whole, and all else wrong
	refused(t, append([]byte{70}, bytes.Repeat([]byte{255}, 23)...), api.ErrSum)
	refused(t, append([]byte{69}, bytes.Repeat([]byte{255}, 19)...), api.ErrSum)
	refused(t, append([]byte{69}, make([]byte, 19)...), api.ErrSum)
	for _, alert := range []bool{false, true} {
		size := sizeOf(alert)
		// not of the form, less than all has, and another sum
		refused(t, zeroSum(alert, size, map[int]byte{1: 1, 3: 90}), api.ErrForm)
		refused(t, zeroSum(alert, size, map[int]byte{6: 64, 3: 90}), api.ErrForm)
		refused(t, zeroSum(alert, size, map[int]byte{7: 1, 3: 90}), api.ErrForm)
		refused(t, zeroSum(alert, size, map[int]byte{2: 5, 3: 221}), api.ErrForm)
		refused(t, zeroSum(alert, size, map[int]byte{2: 255, 3: 255}), api.ErrForm)
		refused(t, zeroSum(alert, size, map[int]byte{3: byte(size - 1)}), api.ErrForm)
		// less than all has, and another sum
		refused(t, zeroSum(alert, size, map[int]byte{3: byte(size + 1)}), api.ErrMore)
		refused(t, zeroSum(alert, size+9, map[int]byte{2: 5, 3: 220}), api.ErrMore)
		// another sum alone
		refused(t, zeroSum(alert, size+1, map[int]byte{3: byte(size + 1)}), api.ErrSum)
	}
	refused(t, zeroSum(true, 24, map[int]byte{21: 5, 3: 90}), api.ErrForm)
	refused(t, zeroSum(true, 24, map[int]byte{23: 1, 3: 90}), api.ErrForm)
}

// TestPassedP4_3: the Ttl is one less, and what is behind all is gone.
func TestPassedP4_3(t *testing.T) {
	for h := range headers {
		for _, n := range []int{0, 1, 30, 1500 - sizeOf(h.Alert)} {
			b := mixed(n)
			f := told(h, b)
			g := h
			g.Ttl--
			p0, e0 := told(g, b), api.OK
			if h.Ttl <= 1 {
				p0, e0 = nil, api.ErrTtl
			}
			for _, behind := range [][]byte{nil, {7}, mixed(1600)} {
				if p, e := Passed(append(bytes.Clone(f), behind...)); !bytes.Equal(p, p0) || e != e0 {
					t.Errorf("Passed(%v): %v %d, not %v %d", f, p, e, p0, e0)
				}
			}
		}
	}
}

// TestPassedTtlP4_3: each Ttl.
func TestPassedTtlP4_3(t *testing.T) {
	for ttl := range 256 {
		h := api.Header{Src: 5, Dst: 6, Proto: 2, Ttl: byte(ttl), Alert: ttl%2 == 0}
		p, e := Passed(told(h, []byte{1, 2}))
		if ttl <= 1 {
			if len(p) != 0 || e != api.ErrTtl {
				t.Errorf("Ttl %d: %v %d", ttl, p, e)
			}
			continue
		}
		h.Ttl--
		if !bytes.Equal(p, told(h, []byte{1, 2})) || e != api.OK {
			t.Errorf("Ttl %d: %v %d", ttl, p, e)
		}
	}
}

// TestPassedZeroSumP4_3: where the sum comes to 0 by passing on, it stands as 0, and goes on from there.
func TestPassedZeroSumP4_3(t *testing.T) {
	f, _ := Encode(api.Header{Ttl: 3, Id: 0xb8eb + 0x100}, nil)
	p, e := Passed(f)
	if e != api.OK || p[8] != 2 {
		t.Fatalf("Passed(%v): %v %d", f, p, e)
	}
	p, e = Passed(p)
	if p0 := []byte{69, 0, 0, 20, 185, 235, 0, 0, 1, 0, 0, 0, 0, 0, 0, 0, 0, 0, 0, 0}; !bytes.Equal(p, p0) || e != api.OK {
		t.Errorf("Passed: %v %d, not %v", p, e, p0)
	}
	refused(t, append(bytes.Clone(p[:10]), append([]byte{255, 255}, p[12:]...)...), api.ErrSum)
	if h, _, e := Decode(p); h != (api.Header{Ttl: 1, Id: 0xb9eb}) || e != api.OK {
		t.Errorf("Decode(%v): %v %d", p, h, e)
	}
	if p, e := Passed(p); len(p) != 0 || e != api.ErrTtl {
		t.Errorf("Passed: %v %d", p, e)
	}
}

// TestPassedFaultP4_3: a frame that isn't right is refused so, be its Ttl what it may.
func TestPassedFaultP4_3(t *testing.T) {
	for _, ttl := range []byte{0, 1, 2, 255} {
		f := told(api.Header{Ttl: ttl}, []byte{1, 2})
		refused(t, f[:21], api.ErrMore)
		f[6] = 32
		refused(t, f, api.ErrSum)
		refused(t, mend(f, 20), api.ErrForm)
	}
}

// TestSameP4_4: what was told in bytes is the same, and nothing else is told by these.
func TestSameP4_4(t *testing.T) {
	whose := map[string]api.Header{}
	for h := range headers {
		for n := range 40 {
			b := mixed(n)
			f, e := Encode(h, b)
			if e != api.OK {
				t.Fatalf("Encode(%v, %v): %d", h, b, e)
			}
			if g, c, e := Decode(f); g != h || !bytes.Equal(c, b) || e != api.OK {
				t.Errorf("Decode(%v): %v %v %d, not %v %v", f, g, c, e, h, b)
			}
			if g, had := whose[string(f)]; had && g != h {
				t.Errorf("%v and %v are both %v", g, h, f)
			}
			whose[string(f)] = h
		}
	}
}

// TestPassedOnP4_4: on a way of many, only the Ttl is another one.
func TestPassedOnP4_4(t *testing.T) {
	for h := range headers {
		b := mixed(33)
		f, _ := Encode(h, b)
		passed := 0
		for p, e := Passed(f); e == api.OK; p, e = Passed(p) {
			passed++
			g, c, e := Decode(p)
			g.Ttl += byte(passed)
			if g != h || !bytes.Equal(c, b) || e != api.OK {
				t.Fatalf("%v, passed on %d times: %v %v %d", h, passed, g, c, e)
			}
		}
		if passed != max(0, int(h.Ttl)-1) {
			t.Errorf("%v was passed on %d times", h, passed)
		}
	}
}

// TestAnyBytesP4_2: bytes that come near a frame: what is taken is what Encode tells, and what Encode tells is taken (R1).
func TestAnyBytesP4_2(t *testing.T) {
	seed := uint32(1)
	next := func(n int) int {
		seed = seed*1664525 + 1013904223
		return int(seed>>8) % n
	}
	taken := 0
	for range 200000 {
		x := known[next(len(known))]
		f := append(bytes.Clone(x.f), mixed(next(4))...)
		for range next(3) {
			f[next(len(f))] = byte(next(256))
		}
		f = f[:len(f)-next(3)]
		if size := 4 * int(f[0]&15); size >= 20 && size <= len(f) && size%2 == 0 && next(4) > 0 {
			f = mend(f, size)
		}
		h, b, e := Decode(f)
		if e != api.OK {
			if h != (api.Header{}) || len(b) != 0 {
				t.Fatalf("Decode(%v): %v %v %d", f, h, b, e)
			}
			continue
		}
		taken++
		if !bytes.HasPrefix(f, told(h, b)) {
			t.Fatalf("Decode(%v): %v %v", f, h, b)
		}
	}
	if taken < 1000 {
		t.Errorf("%d are taken", taken)
	}
}

// TestApart: what is handed in stays as it is, what comes out shares nothing with it, and the same is answered again (R3, R4).
func TestApart(t *testing.T) {
	room := []byte{1, 2, 3, 4, 5, 6, 7, 8}
	b := room[2:5]
	h := api.Header{Src: 1, Dst: 2, Proto: 3, Ttl: 4, Id: 5, Alert: true}
	f, _ := Encode(h, b)
	again, _ := Encode(h, b)
	clear(f)
	_ = append(f, 99)
	if !bytes.Equal(room, []byte{1, 2, 3, 4, 5, 6, 7, 8}) || !bytes.Equal(again, told(h, []byte{3, 4, 5})) {
		t.Errorf("after Encode: %v %v", room, again)
	}
	f = append(told(h, b), 9, 9, 9)
	kept := bytes.Clone(f)
	_, c, _ := Decode(f[:28])
	_ = append(c, 77)
	clear(c)
	p, _ := Passed(f[:28])
	_ = append(p, 77)
	clear(p)
	if !bytes.Equal(f, kept) {
		t.Errorf("after Decode and Passed: %v, not %v", f, kept)
	}
	for range 2 {
		if g, c, e := Decode(f); g != h || !bytes.Equal(c, b) || e != api.OK {
			t.Errorf("Decode(%v): %v %v %d", f, g, c, e)
		}
	}
}
