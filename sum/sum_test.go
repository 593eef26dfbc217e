package sum

import (
	"bytes"
	"math"
	"slices"
	"testing"

	"stolon/api"
)

// joins are words with what they are joined, worked out by hand: below 65536, and from there on.
var joins = []struct{ x, y, s uint16 }{
	{0, 0, 0},
	{0, 1, 1},
	{1, 2, 3},
	{0x0001, 0xf203, 0xf204},
	{0x1234, 0x5678, 0x68ac},
	{0x00ff, 0x0001, 0x0100},
	{0x7fff, 0x7fff, 0xfffe},
	{0x7fff, 0x8000, 0xffff},
	{0, 65535, 65535},
	{1, 65534, 65535},
	{0x1234, 0xedcb, 65535},
	{1, 65535, 1},
	{2, 65534, 1},
	{2, 65535, 2},
	{0x8000, 0x8000, 1},
	{0x8000, 0x8001, 2},
	{0xf000, 0x2000, 0x1001},
	{65534, 65534, 65533},
	{65534, 65535, 65534},
	{65535, 65535, 65535},
}

// sums are bytes with their sums, worked out by hand.
var sums = []struct {
	b []byte
	s uint16
}{
	// none, one, and odd numbers of bytes: the last one has a 0 behind
	{nil, 65535},
	{[]byte{}, 65535},
	{[]byte{0}, 65535},
	{[]byte{1}, 0xfeff},
	{[]byte{255}, 0x00ff},
	{[]byte{0, 0, 0}, 65535},
	{[]byte{0, 0, 1}, 0xfeff},
	{[]byte{1, 2, 3}, 0xfbfd},
	{[]byte{255, 255, 255}, 0x00ff},
	{[]byte{1, 0, 255}, 0xfffe},
	{[]byte{0, 255, 255}, 0},
	{[]byte{1, 2, 3, 4, 5}, 0xf6f9},
	// one word: the first byte is the higher one
	{[]byte{0, 0}, 65535},
	{[]byte{0, 1}, 65534},
	{[]byte{1, 0}, 0xfeff},
	{[]byte{18, 52}, 0xedcb},
	{[]byte{255, 255}, 0},
	// two words, below 65535, at it, and at 65536 and more
	{[]byte{0, 1, 242, 3}, 3579},
	{[]byte{1, 2, 3, 4}, 0xfbf9},
	{[]byte{255, 255, 0, 0}, 0},
	{[]byte{255, 254, 0, 1}, 0},
	{[]byte{18, 52, 237, 203}, 0},
	{[]byte{128, 0, 127, 255}, 0},
	{[]byte{128, 0, 128, 0}, 65534},
	{[]byte{255, 255, 0, 1}, 65534},
	{[]byte{255, 254, 0, 2}, 65534},
	{[]byte{255, 255, 255, 255}, 0},
	{[]byte{240, 0, 32, 0}, 0xeffe},
	// more words: RFC 1071's, and a header of IPv4 without its sum and with it
	{[]byte{0x00, 0x01, 0xf2, 0x03, 0xf4, 0xf5, 0xf6, 0xf7}, 0x220d},
	{[]byte{0x45, 0, 0, 0x73, 0, 0, 0x40, 0, 0x40, 0x11, 0, 0, 0xc0, 0xa8, 0, 1, 0xc0, 0xa8, 0, 0xc7}, 0xb861},
	{[]byte{0x45, 0, 0, 0x73, 0, 0, 0x40, 0, 0x40, 0x11, 0xb8, 0x61, 0xc0, 0xa8, 0, 1, 0xc0, 0xa8, 0, 0xc7}, 0},
}

// rest is a sum that is reckoned without joining: joined words are the rest of their whole sum by 65535, but 65535 in place of 0, if one of them isn't 0.
func rest(b []byte) uint16 {
	n := 0
	for i, x := range b {
		if i%2 == 0 {
			n += 256 * int(x)
		} else {
			n += int(x)
		}
	}
	if n > 0 {
		n = (n-1)%65535 + 1
	}
	return uint16(65535 - n)
}

// mixed are n bytes without an order that the sum could see; others for another seed.
func mixed(n int, seed uint32) []byte {
	b := make([]byte, n)
	for i := range b {
		seed = seed*1664525 + 1013904223
		b[i] = byte(seed >> 24)
	}
	return b
}

// shapes are bytes of many lengths: all 0, all 255, and mixed ones.
func shapes(yield func([]byte) bool) {
	for n := range 130 {
		if !yield(make([]byte, n)) || !yield(bytes.Repeat([]byte{255}, n)) {
			return
		}
		for seed := range uint32(8) {
			if !yield(mixed(n, seed)) {
				return
			}
		}
	}
}

// edges are words at and beside the edges of bytes, of signs, and of 65535.
var edges = []uint16{0, 1, 2, 127, 128, 254, 255, 256, 257, 0x1234, 32766, 32767, 32768, 32769, 0xedcb, 65278, 65279, 65280, 65281, 65533, 65534, 65535}

// TestJoinP2_1: two words are added, and 65536 is one more.
func TestJoinP2_1(t *testing.T) {
	for _, x := range joins {
		if s := Join(x.x, x.y); s != x.s {
			t.Errorf("Join(%d, %d): %d, not %d", x.x, x.y, s, x.s)
		}
		if s := Join(x.y, x.x); s != x.s {
			t.Errorf("Join(%d, %d): %d, not %d", x.y, x.x, s, x.s)
		}
	}
	for _, x := range edges {
		for y := range 65536 {
			s0 := int(x) + y
			if s0 >= 65536 {
				s0 -= 65535
			}
			if s := Join(x, uint16(y)); int(s) != s0 {
				t.Fatalf("Join(%d, %d): %d, not %d", x, y, s, s0)
			}
		}
	}
}

// TestOfP2_1: sums of ordinary bytes, and at the edges.
func TestOfP2_1(t *testing.T) {
	for _, x := range sums {
		if s := Of(x.b); s != x.s {
			t.Errorf("Of(%v): %d, not %d", x.b, s, x.s)
		}
	}
}

// TestOfAllP2_1: sums of all one and two bytes, of bytes of many lengths, and of many bytes.
func TestOfAllP2_1(t *testing.T) {
	for n := range 65536 {
		b := []byte{byte(n >> 8), byte(n)}
		if s := Of(b); int(s) != 65535-n {
			t.Fatalf("Of(%v): %d, not %d", b, s, 65535-n)
		}
		if s := Of(b[1:]); int(s) != 65535-n&255<<8 {
			t.Fatalf("Of(%v): %d, not %d", b[1:], s, 65535-n&255<<8)
		}
	}
	for b := range shapes {
		if s := Of(b); s != rest(b) {
			t.Fatalf("Of(%v): %d, not %d", b, s, rest(b))
		}
	}
	for _, n := range []int{1500, 65535, 65536, 131074, 300001, 1 << 20, 1<<20 + 1} {
		for _, b := range [][]byte{make([]byte, n), bytes.Repeat([]byte{255}, n), bytes.Repeat([]byte{0, 1, 255}, n)[:n], mixed(n, 7)} {
			if s := Of(b); s != rest(b) {
				t.Fatalf("Of %d bytes, %v first: %d, not %d", n, b[:3], s, rest(b))
			}
		}
	}
}

// TestOfRoomP2_1: what stands behind the last byte, in the same memory, doesn't count.
func TestOfRoomP2_1(t *testing.T) {
	b := []byte{1, 2, 3, 4, 5}
	for n, s0 := range []uint16{65535, 0xfeff, 0xfefd, 0xfbfd, 0xfbf9, 0xf6f9} {
		if s := Of(b[:n]); s != s0 {
			t.Errorf("Of(%v): %d, not %d", b[:n], s, s0)
		}
	}
}

// TestWholeP2_1: whole is what has the sum 0, and nothing else.
func TestWholeP2_1(t *testing.T) {
	for _, x := range sums {
		if Whole(x.b) != (x.s == 0) {
			t.Errorf("Whole(%v): %t, though its sum is %d", x.b, Whole(x.b), x.s)
		}
	}
	for n := range 65536 {
		for _, b := range [][]byte{{byte(n >> 8), byte(n)}, {18, 52, byte(n >> 8), byte(n)}, {255, 255, byte(n >> 8), byte(n)}, {byte(n >> 8), byte(n), 255}} {
			if Whole(b) != (rest(b) == 0) {
				t.Fatalf("Whole(%v): %t, though its sum is %d", b, Whole(b), rest(b))
			}
		}
	}
	for b := range shapes {
		if Whole(b) != (rest(b) == 0) {
			t.Fatalf("Whole(%v): %t, though its sum is %d", b, Whole(b), rest(b))
		}
	}
}

// TestWordsP2_1: words are told in their order, no more of them than are taken.
func TestWordsP2_1(t *testing.T) {
	l0 := []uint16{0x0102, 0x0304, 0x0500}
	for n := range 4 {
		var l []uint16
		for w := range words([]byte{1, 2, 3, 4, 5}) {
			if len(l) == n {
				break
			}
			l = append(l, w)
		}
		if !slices.Equal(l, l0[:n]) {
			t.Errorf("the first %d words: %v", n, l)
		}
	}
}

// TestPutP2_2: the sum stands at the place, the higher byte first, and all else as it was.
func TestPutP2_2(t *testing.T) {
	for _, x := range []struct {
		b  []byte
		at int
		p  []byte
	}{
		{[]byte{0, 0}, 0, []byte{255, 255}},
		{[]byte{1, 2}, 0, []byte{255, 255}},
		{[]byte{255, 255}, 0, []byte{255, 255}},
		{[]byte{0, 0, 0}, 0, []byte{255, 255, 0}},
		{[]byte{9, 9, 1}, 0, []byte{254, 255, 1}},
		{[]byte{9, 9, 255}, 0, []byte{0, 255, 255}},
		{[]byte{0, 0, 0, 0}, 0, []byte{255, 255, 0, 0}},
		{[]byte{0, 0, 0, 0}, 2, []byte{0, 0, 255, 255}},
		{[]byte{7, 8, 18, 52}, 0, []byte{237, 203, 18, 52}},
		{[]byte{18, 52, 7, 8}, 2, []byte{18, 52, 237, 203}},
		{[]byte{255, 255, 7, 8}, 2, []byte{255, 255, 0, 0}},
		{[]byte{9, 9, 1, 2, 3}, 0, []byte{251, 253, 1, 2, 3}},
		{[]byte{1, 2, 9, 9, 3}, 2, []byte{1, 2, 251, 253, 3}},
		{[]byte{0, 1, 0, 0, 242, 3}, 2, []byte{0, 1, 13, 251, 242, 3}},
		{[]byte{255, 255, 0, 1, 5, 5}, 4, []byte{255, 255, 0, 1, 255, 254}},
		{[]byte{0x45, 0, 0, 0x73, 0, 0, 0x40, 0, 0x40, 0x11, 0xb8, 0x61, 0xc0, 0xa8, 0, 1, 0xc0, 0xa8, 0, 0xc7}, 10,
			[]byte{0x45, 0, 0, 0x73, 0, 0, 0x40, 0, 0x40, 0x11, 0xb8, 0x61, 0xc0, 0xa8, 0, 1, 0xc0, 0xa8, 0, 0xc7}},
		{[]byte{0x45, 0, 0, 0x73, 0, 0, 0x40, 0, 0x40, 0x11, 0x33, 0x44, 0xc0, 0xa8, 0, 1, 0xc0, 0xa8, 0, 0xc7}, 10,
			[]byte{0x45, 0, 0, 0x73, 0, 0, 0x40, 0, 0x40, 0x11, 0xb8, 0x61, 0xc0, 0xa8, 0, 1, 0xc0, 0xa8, 0, 0xc7}},
	} {
		if p, e := Put(x.b, x.at); e != api.OK || !bytes.Equal(p, x.p) {
			t.Errorf("Put(%v, %d): %v %d, not %v", x.b, x.at, p, e, x.p)
		}
	}
}

// TestPutPlacesP2_2: of each number of bytes the even places with two bytes from them on are taken; the first beyond, odd ones, those below 0 and far ones are refused, with nothing.
func TestPutPlacesP2_2(t *testing.T) {
	for n := range 41 {
		b := mixed(n, 3)
		for at := -n - 6; at <= n+6; at++ {
			p, e := Put(b, at)
			if at < 0 || at%2 != 0 || at+2 > n {
				if p != nil || e != api.ErrArg {
					t.Errorf("Put of %d bytes at %d: %v %d, not ErrArg", n, at, p, e)
				}
				continue
			}
			s := rest(slices.Concat(b[:at], b[at+2:]))
			p0 := slices.Concat(b[:at], []byte{byte(s >> 8), byte(s)}, b[at+2:])
			if e != api.OK || !bytes.Equal(p, p0) {
				t.Errorf("Put of %d bytes at %d: %v %d, not %v", n, at, p, e, p0)
			}
		}
		for _, at := range []int{math.MinInt, math.MinInt + 1, math.MinInt + 2, math.MinInt32, -1 << 16, 1 << 16, math.MaxInt32, 1 << 32, math.MaxInt - 2, math.MaxInt - 1, math.MaxInt} {
			if p, e := Put(b, at); p != nil || e != api.ErrArg {
				t.Errorf("Put of %d bytes at %d: %v %d, not ErrArg", n, at, p, e)
			}
		}
	}
	for _, b := range [][]byte{nil, {}, {5}, make([]byte, 0, 8), make([]byte, 1, 8)} {
		if p, e := Put(b, 0); p != nil || e != api.ErrArg {
			t.Errorf("Put(%v, 0): %v %d, not ErrArg", b, p, e)
		}
	}
	if p, e := Put(make([]byte, 4, 8), 4); p != nil || e != api.ErrArg {
		t.Errorf("Put into the room behind: %v %d, not ErrArg", p, e)
	}
}

// TestPutKeptP2_2: what goes in isn't written into, nor what stands behind it; what comes out is nobody else's (R3).
func TestPutKeptP2_2(t *testing.T) {
	b0 := []byte{9, 8, 7, 6, 5, 4, 3}
	b := slices.Clone(b0)
	for _, at := range []int{0, 2, -2, 1, 3, 4, 6} {
		p, e := Put(b[:5], at)
		if !bytes.Equal(b, b0) {
			t.Fatalf("Put at %d wrote into its bytes: %v", at, b)
		}
		if e != api.OK {
			continue
		}
		q, _ := Put(b[:5], at)
		q0 := slices.Clone(q)
		for i := range p[:cap(p)] {
			p[:cap(p)][i] ^= 255
		}
		if !bytes.Equal(b, b0) {
			t.Errorf("Put at %d hands out its bytes' memory: %v", at, b)
		}
		if !bytes.Equal(q, q0) {
			t.Errorf("two answers of Put at %d share memory: %v", at, q)
		}
		clear(b)
		if !bytes.Equal(q, q0) {
			t.Errorf("Put at %d keeps its bytes' memory: %v", at, q)
		}
		copy(b, b0)
	}
}

// TestReadOnlyP2_1: Of and Whole write nothing, and answer the same again (R3, R4).
func TestReadOnlyP2_1(t *testing.T) {
	for b := range shapes {
		b0 := slices.Clone(b)
		s, w := Of(b), Whole(b)
		if !bytes.Equal(b, b0) {
			t.Fatalf("%v became %v", b0, b)
		}
		if Of(b) != s || Whole(b) != w {
			t.Fatalf("%v: other answers", b)
		}
	}
}

// TestJoinOrderP2_3: three words are joined to the same in each order.
func TestJoinOrderP2_3(t *testing.T) {
	for _, x := range edges {
		for _, y := range edges {
			if Join(x, y) != Join(y, x) {
				t.Errorf("%d and %d: %d, %d", x, y, Join(x, y), Join(y, x))
			}
			for _, z := range edges {
				s := Join(x, Join(y, z))
				for _, s1 := range []uint16{Join(Join(x, y), z), Join(Join(z, x), y), Join(y, Join(z, x))} {
					if s1 != s {
						t.Errorf("%d, %d and %d: %d, %d", x, y, z, s, s1)
					}
				}
			}
		}
	}
}

// TestOfOrderP2_3: words in another order have the same sum; pieces with an even number of bytes are summed by themselves, then joined.
func TestOfOrderP2_3(t *testing.T) {
	for b := range shapes {
		if len(b)%2 != 0 {
			continue
		}
		var back []byte
		for i := len(b) - 2; i >= 0; i -= 2 {
			back = append(back, b[i], b[i+1])
		}
		if Of(back) != Of(b) {
			t.Fatalf("%v: %d, backwards %d", b, Of(b), Of(back))
		}
		for i := 0; i <= len(b); i += 2 {
			turned := slices.Concat(b[i:], b[:i])
			if Of(turned) != Of(b) || ^Join(^Of(b[:i]), ^Of(b[i:])) != Of(b) {
				t.Fatalf("%v, turned and in two pieces at %d: %d, not %d", b, i, Of(turned), Of(b))
			}
		}
	}
}

// TestPutWholeP2_3: with its sum put into it, at whatever place, it is whole; to put it again changes nothing.
func TestPutWholeP2_3(t *testing.T) {
	for b := range shapes {
		for at := 0; at+2 <= len(b); at += 2 {
			p, e := Put(b, at)
			if e != api.OK || !Whole(p) {
				t.Fatalf("Put(%v, %d): %v %d isn't whole", b, at, p, e)
			}
			if q, e := Put(p, at); e != api.OK || !bytes.Equal(p, q) {
				t.Fatalf("Put(%v, %d): %v, then %v %d", b, at, p, q, e)
			}
		}
	}
}
