package addr

import (
	"bytes"
	"regexp"
	"slices"
	"strings"
	"testing"

	"stolon/api"
)

// texts are addresses with their texts: ordinary ones, and the edges of bytes, groups and local groups.
var texts = []struct {
	a api.Addr
	s string
}{
	{0, "0.0.0.0"},
	{1, "0.0.0.1"},
	{255, "0.0.0.255"},
	{256, "0.0.1.0"},
	{65536, "0.1.0.0"},
	{16777216, "1.0.0.0"},
	{16909060, "1.2.3.4"},
	{67305985, "4.3.2.1"},
	{167837960, "10.1.1.8"},
	{2130706433, "127.0.0.1"},
	{3232235786, "192.168.1.10"},
	{1677747300, "100.0.100.100"},
	{3355537151, "200.1.110.255"},
	{3758096383, "223.255.255.255"},
	{3758096384, "224.0.0.0"},
	{3758096385, "224.0.0.1"},
	{3758096639, "224.0.0.255"},
	{3758096640, "224.0.1.0"},
	{4009820675, "239.1.2.3"},
	{4026531839, "239.255.255.255"},
	{4026531840, "240.0.0.0"},
	{4294967294, "255.255.255.254"},
	{4294967295, "255.255.255.255"},
}

// TestTextP1_1: an address's text.
func TestTextP1_1(t *testing.T) {
	for _, x := range texts {
		if s := Text(x.a); s != x.s {
			t.Errorf("Text(%d): %q, not %q", x.a, s, x.s)
		}
	}
}

// TestParseP1_1: the address of a text.
func TestParseP1_1(t *testing.T) {
	for _, x := range texts {
		if a, e := Parse(x.s); a != x.a || e != api.OK {
			t.Errorf("Parse(%q): %d %d, not %d", x.s, a, e, x.a)
		}
	}
}

// TestParseNoTextP1_1: what is no address's text is told as ErrForm, and 0.
func TestParseNoTextP1_1(t *testing.T) {
	for _, s := range []string{
		"", ".", "...", "....", "a.b.c.d", "nothing",
		// too few and too many parts
		"1", "1.2", "1.2.3", "1.2.3.4.5", "0.0.0.0.0", "255.255.255.255.255", "16909060",
		// parts that are empty
		"1.2.3.", ".1.2.3", "1..2.3", "1..3", ".1.2.3.4", "1.2.3.4.", "1.2.3..4", "1.2..3.4",
		// a nought ahead
		"01.2.3.4", "1.02.3.4", "1.2.003.4", "1.2.3.04", "00.0.0.0", "0.0.0.00", "0.0.0.000", "1.2.3.0255", "1.2.3.025",
		// above 255
		"256.0.0.0", "0.256.0.0", "0.0.256.0", "0.0.0.256", "0.0.0.257", "0.0.0.260", "0.0.0.300", "0.0.0.999",
		"0.0.0.1000", "0.0.0.2550", "0.0.0.65536", "0.0.0.4294967296", "0.0.0.18446744073709551616",
		"0.0.0.18446744073709551617", "18446744073709551617.0.0.0", "0.0.0.340282366920938463463374607431768211457",
		// other signs and digits
		"1.2.3.-4", "1.2.3.+4", "-1.2.3.4", "1.2.3.4 ", " 1.2.3.4", "1. 2.3.4", "1.2.3.4\n", "1.2.3.4\x00", "\x001.2.3.4",
		"1.2.3.0x4", "0x1.2.3.4", "1.2.3.4a", "a1.2.3.4", "1.2.3.a", "1.2.3.1_0", "1.2.3.1e1", "1,2,3,4", "1.2.3:4", "1/2/3/4",
		"1.2.3./", "1.2.3.:", "1.2.3.1/", "1.2.3.1:", "1.2.3.\u0664", "1.2.3\uff0e4", "\xff.2.3.4", "1.2.3.\xb4", "1.2.3.4\xff",
		// very long ones
		strings.Repeat("9", 100000), strings.Repeat("0", 100000) + ".0.0.0", strings.Repeat("1.", 100000) + "1", strings.Repeat(".", 100000),
	} {
		if a, e := Parse(s); a != 0 || e != api.ErrForm {
			t.Errorf("Parse(%.40q): %d %d, not 0 %d", s, a, e, api.ErrForm)
		}
	}
}

// TestGroupsP1_1: the first and the last group, and local one, those beside them, and others.
func TestGroupsP1_1(t *testing.T) {
	for _, x := range []struct {
		s                   string
		group, local, asked bool
	}{
		{"0.0.0.0", false, false, false},
		{"0.0.0.255", false, false, false},
		{"10.0.0.1", false, false, false},
		{"14.0.0.0", false, false, false},
		{"96.0.0.1", false, false, false},
		{"127.255.255.255", false, false, false},
		{"128.0.0.0", false, false, false},
		{"192.0.0.1", false, false, false},
		{"223.255.255.255", false, false, false},
		{"224.0.0.0", true, true, false},
		{"224.0.0.1", true, true, false},
		{"224.0.0.128", true, true, false},
		{"224.0.0.255", true, true, false},
		{"224.0.1.0", true, false, true},
		{"224.0.2.7", true, false, true},
		{"224.1.0.0", true, false, true},
		{"224.255.255.255", true, false, true},
		{"225.0.0.0", true, false, true},
		{"232.0.0.1", true, false, true},
		{"239.0.0.0", true, false, true},
		{"239.1.2.3", true, false, true},
		{"239.255.255.255", true, false, true},
		{"240.0.0.0", false, false, false},
		{"240.0.0.1", false, false, false},
		{"255.0.0.0", false, false, false},
		{"255.255.255.255", false, false, false},
	} {
		a, e := Parse(x.s)
		if e != api.OK {
			t.Fatal(x.s, e)
		}
		if g, l, k := IsGroup(a), IsLocal(a), IsAsked(a); g != x.group || l != x.local || k != x.asked {
			t.Errorf("%s: %t %t %t", x.s, g, l, k)
		}
	}
}

// TestLessP1_1: addresses rise as numbers without a sign, as they stand in texts.
func TestLessP1_1(t *testing.T) {
	l := slices.Clone(texts)
	slices.SortFunc(l, func(x, y struct {
		a api.Addr
		s string
	}) int {
		return int(int64(x.a) - int64(y.a))
	})
	for i, x := range l {
		for k, y := range l {
			if Less(x.a, y.a) != (i < k) {
				t.Errorf("Less(%s, %s): %t", x.s, y.s, !(i < k))
			}
		}
	}
}

// TestBytesP1_2: an address's bytes, the highest first.
func TestBytesP1_2(t *testing.T) {
	for _, x := range []struct {
		a api.Addr
		b []byte
	}{
		{0, []byte{0, 0, 0, 0}},
		{1, []byte{0, 0, 0, 1}},
		{256, []byte{0, 0, 1, 0}},
		{16909060, []byte{1, 2, 3, 4}},
		{4009820675, []byte{239, 1, 2, 3}},
		{3758096639, []byte{224, 0, 0, 255}},
		{2147483648, []byte{128, 0, 0, 0}},
		{4294967295, []byte{255, 255, 255, 255}},
	} {
		if b := Bytes(x.a); !bytes.Equal(b, x.b) {
			t.Errorf("Bytes(%d): %v, not %v", x.a, b, x.b)
		}
		if a, e := Of(x.b); a != x.a || e != api.OK {
			t.Errorf("Of(%v): %d %d, not %d", x.b, a, e, x.a)
		}
	}
}

// TestOfLengthP1_2: other than four bytes are refused: fewer by ErrMore, more by ErrForm, with 0.
func TestOfLengthP1_2(t *testing.T) {
	for n := range 40 {
		e0 := api.OK
		if n < 4 {
			e0 = api.ErrMore
		} else if n > 4 {
			e0 = api.ErrForm
		}
		a0 := api.Addr(0)
		if n == 4 {
			a0 = 117901063
		}
		if a, e := Of(bytes.Repeat([]byte{7}, n)); a != a0 || e != e0 {
			t.Errorf("of %d bytes: %d %d, not %d %d", n, a, e, a0, e0)
		}
	}
	if a, e := Of(nil); a != 0 || e != api.ErrMore {
		t.Errorf("of nil: %d %d", a, e)
	}
	if a, e := Of(make([]byte, 3, 4)); a != 0 || e != api.ErrMore {
		t.Errorf("of three bytes with room: %d %d", a, e)
	}
	if a, e := Of(make([]byte, 1<<20)); a != 0 || e != api.ErrForm {
		t.Errorf("of many: %d %d", a, e)
	}
}

// TestBytesKeptP1_2: what goes in isn't written into, and what comes out is nobody else's (R3).
func TestBytesKeptP1_2(t *testing.T) {
	b := []byte{239, 1, 2, 3, 9}
	if a, e := Of(b[:4]); a != 4009820675 || e != api.OK || !bytes.Equal(b, []byte{239, 1, 2, 3, 9}) {
		t.Error(a, e, b)
	}
	x := Bytes(16909060)
	y := Bytes(16909060)
	clear(x)
	if z := Bytes(16909060); !bytes.Equal(y, []byte{1, 2, 3, 4}) || !bytes.Equal(z, y) {
		t.Error(y, z)
	}
}

// some are addresses from all over: each value of each byte, and a walk with a step that shares nothing with 2^32.
func some(yield func(api.Addr) bool) {
	for shift := 0; shift < 32; shift += 8 {
		for n := range api.Addr(256) {
			if !yield(n<<shift) || !yield(^(n << shift)) {
				return
			}
		}
	}
	a := api.Addr(0)
	for range 200000 {
		if !yield(a) {
			return
		}
		a += 2654435761
	}
}

// TestOneTextP1_3: each address has a text, which is its alone; its bytes and their order tell the same.
func TestOneTextP1_3(t *testing.T) {
	whose := map[string]api.Addr{}
	last := api.Addr(0)
	for a := range some {
		s := Text(a)
		if b, e := Parse(s); b != a || e != api.OK {
			t.Fatalf("Parse(Text(%d)) = Parse(%q): %d %d", a, s, b, e)
		}
		if b, had := whose[s]; had && b != a {
			t.Fatalf("%q is the text of %d and %d", s, a, b)
		}
		whose[s] = a
		if b, e := Of(Bytes(a)); b != a || e != api.OK {
			t.Fatalf("Of(Bytes(%d)): %d %d", a, b, e)
		}
		if Less(last, a) != (bytes.Compare(Bytes(last), Bytes(a)) < 0) {
			t.Fatalf("Less(%d, %d): %t", last, a, Less(last, a))
		}
		last = a
	}
}

// TestNoOtherTextP1_3: of all short texts of some signs, and of bytes' numbers in each form, those are taken that an address has, and no other.
func TestNoOtherTextP1_3(t *testing.T) {
	form := regexp.MustCompile(`^((0|[1-9][0-9]?|1[0-9][0-9]|2[0-4][0-9]|25[0-5])(\.|$)){4}$`)
	check := func(s string) {
		a, e := Parse(s)
		if form.MatchString(s) && !strings.HasSuffix(s, ".") {
			if e != api.OK || Text(a) != s {
				t.Fatalf("Parse(%q): %d %d, whose text is %q", s, a, e, Text(a))
			}
		} else if a != 0 || e != api.ErrForm {
			t.Fatalf("Parse(%q): %d %d, though it is no text", s, a, e)
		}
	}
	var grow func(s string, n int)
	grow = func(s string, n int) {
		check(s)
		for i := 0; n > 0 && i < 4; i++ {
			grow(s+".025"[i:i+1], n-1)
		}
	}
	grow("", 9)
	for n := range 1200 {
		digits := []byte{byte('0' + n/1000), byte('0' + n/100%10), byte('0' + n/10%10), byte('0' + n%10)}
		for ahead := range digits {
			part := string(digits[ahead:])
			for at := range 4 {
				l := []string{"1", "20", "0", "255"}
				l[at] = part
				check(strings.Join(l, "."))
			}
		}
	}
	for c := range 256 {
		for at := range len("12.3.4.56") + 1 {
			check("12.3.4.56"[:at] + string([]byte{byte(c)}) + "12.3.4.56"[at:])
		}
	}
}
