package code

import (
	"math"
	"sync"
	"testing"

	"stolon/api"
)

// TestFirstCallsTogether: whichever call is the first one, and however many are, each answers alike (R4).
func TestFirstCallsTogether(t *testing.T) {
	var all sync.WaitGroup
	start := make(chan bool)
	for i := range 64 {
		all.Go(func() {
			<-start
			if i%2 == 0 {
				if !Exact(31744) {
					t.Error("Exact(31744): false")
				}
			} else if c := Near(31744); c != 255 {
				t.Errorf("Near(31744): %d", c)
			}
		})
	}
	close(start)
	all.Wait()
}

// TestTable: once a call has looked there, the table has each code's value, as Value tells it.
func TestTable(t *testing.T) {
	Near(0)
	for c, n := range values {
		if int(n) != Value(byte(c)) {
			t.Errorf("%d: %d, not %d", c, n, Value(byte(c)))
		}
	}
}

// TestAnswersByFunction: what is answered doesn't hang on the table, whatever stands there (R4).
func TestAnswersByFunction(t *testing.T) {
	Near(0)
	table := values
	defer func() { values = table }()
	var least, most [codes]uint16
	for c := range most {
		most[c] = math.MaxUint16
	}
	for _, values = range [][codes]uint16{least, most} {
		for _, x := range known {
			if n := Value(x.c); n != x.n {
				t.Errorf("Value(%d): %d, not %d", x.c, n, x.n)
			}
			if c, e := Code(x.n); c != x.c || e != api.OK || !Exact(x.n) {
				t.Errorf("Code(%d): %d %d, not %d", x.n, c, e, x.c)
			}
		}
		for _, x := range between {
			if c := Near(x.n); c != x.c {
				t.Errorf("Near(%d): %d, not %d", x.n, c, x.c)
			}
			if Exact(x.n) {
				t.Errorf("Exact(%d): true", x.n)
			}
		}
	}
}

// known are codes with their values, worked out by hand: the edges of those that are their own values, and of each e, and others.
var known = []struct {
	c byte
	n int
}{
	{0, 0},
	{1, 1},
	{2, 2},
	{15, 15},
	{16, 16},
	{100, 100},
	{126, 126},
	{127, 127},
	{128, 128},
	{129, 136},
	{130, 144},
	{142, 240},
	{143, 248},
	{144, 256},
	{145, 272},
	{159, 496},
	{160, 512},
	{161, 544},
	{175, 992},
	{176, 1024},
	{177, 1088},
	{191, 1984},
	{192, 2048},
	{200, 3072},
	{207, 3968},
	{208, 4096},
	{223, 7936},
	{224, 8192},
	{239, 15872},
	{240, 16384},
	{241, 17408},
	{254, 30720},
	{255, 31744},
}

// TestValueP3_1: a code's value.
func TestValueP3_1(t *testing.T) {
	for _, x := range known {
		if n := Value(x.c); n != x.n {
			t.Errorf("Value(%d): %d, not %d", x.c, n, x.n)
		}
	}
}

// TestValueAllP3_1: each code's value, as the chapter's words say it, by another way of reckoning.
func TestValueAllP3_1(t *testing.T) {
	for c := range 128 {
		if n := Value(byte(c)); n != c {
			t.Errorf("Value(%d): %d", c, n)
		}
	}
	for e := range 8 {
		for m := range 16 {
			n := m + 16
			for range e + 3 {
				n *= 2
			}
			if v := Value(byte(128 + 16*e + m)); v != n {
				t.Errorf("Value of m %d, e %d: %d, not %d", m, e, v, n)
			}
		}
	}
}

// TestCodeP3_1: the code of a value, which is the nearest one, too.
func TestCodeP3_1(t *testing.T) {
	for _, x := range known {
		if c, e := Code(x.n); c != x.c || e != api.OK {
			t.Errorf("Code(%d): %d %d, not %d", x.n, c, e, x.c)
		}
		if !Exact(x.n) {
			t.Errorf("Exact(%d): false", x.n)
		}
		if c := Near(x.n); c != x.c {
			t.Errorf("Near(%d): %d, not %d", x.n, c, x.c)
		}
	}
}

// between are numbers that no code has, with the nearest code below: below 0, between two codes' values, above the greatest one.
var between = []struct {
	n int
	c byte
}{
	{math.MinInt, 0},
	{math.MinInt + 1, 0},
	{math.MinInt + 255, 0},
	{math.MinInt + 31744, 0},
	{-1 << 32, 0},
	{-65536, 0},
	{-65535, 0},
	{-31744, 0},
	{-256, 0},
	{-128, 0},
	{-127, 0},
	{-5, 0},
	{-1, 0},
	{129, 128},
	{132, 128},
	{135, 128},
	{137, 129},
	{143, 129},
	{145, 130},
	{247, 142},
	{249, 143},
	{255, 143},
	{257, 144},
	{271, 144},
	{273, 145},
	{495, 158},
	{497, 159},
	{511, 159},
	{513, 160},
	{1023, 175},
	{1025, 176},
	{3000, 199},
	{3071, 199},
	{3073, 200},
	{10000, 227},
	{16383, 239},
	{16385, 240},
	{30719, 253},
	{30721, 254},
	{31743, 254},
	{31745, 255},
	{32767, 255},
	{32768, 255},
	{40000, 255},
	{65535, 255},
	{65536, 255},
	{65537, 255},
	{65536 + 127, 255},
	{65536 + 31744, 255},
	{math.MaxInt32, 255},
	{1 << 32, 255},
	{1<<32 + 127, 255},
	{1<<48 + 128, 255},
	{math.MaxInt - 1, 255},
	{math.MaxInt, 255},
}

// TestNoCodeP3_1: what no code has is refused by ErrArg, with 0; the nearest code below is told all the same.
func TestNoCodeP3_1(t *testing.T) {
	for _, x := range between {
		if c, e := Code(x.n); c != 0 || e != api.ErrArg {
			t.Errorf("Code(%d): %d %d, not 0 %d", x.n, c, e, api.ErrArg)
		}
		if Exact(x.n) {
			t.Errorf("Exact(%d): true", x.n)
		}
		if c := Near(x.n); c != x.c {
			t.Errorf("Near(%d): %d, not %d", x.n, c, x.c)
		}
	}
}

// TestAllNumbersP3_1: all numbers from somewhat below 0 to beyond the greatest of 16 bits, held against a look through all codes; asked twice (R4).
func TestAllNumbersP3_1(t *testing.T) {
	for n := -1000; n < 70000; n++ {
		near, exact := byte(0), false
		for c := range codes {
			v := Value(byte(c))
			if v <= n {
				near = byte(c)
			}
			exact = exact || v == n
		}
		c0, e0 := byte(0), api.ErrArg
		if exact {
			c0, e0 = near, api.OK
		}
		for range 2 {
			if c, e := Code(n); c != c0 || e != e0 {
				t.Fatalf("Code(%d): %d %d, not %d %d", n, c, e, c0, e0)
			}
			if Exact(n) != exact {
				t.Fatalf("Exact(%d): %t", n, !exact)
			}
			if c := Near(n); c != near {
				t.Fatalf("Near(%d): %d, not %d", n, c, near)
			}
		}
	}
}

// TestRiseP3_2: values rise with their codes, so that no two have one.
func TestRiseP3_2(t *testing.T) {
	for c := 1; c <= 255; c++ {
		if Value(byte(c-1)) >= Value(byte(c)) {
			t.Errorf("Value(%d): %d, Value(%d): %d", c-1, Value(byte(c-1)), c, Value(byte(c)))
		}
	}
}

// TestOneCodeP3_2: each value has one code, by which it is found again.
func TestOneCodeP3_2(t *testing.T) {
	whose := map[int]int{}
	for c := range 256 {
		n := Value(byte(c))
		if d, had := whose[n]; had {
			t.Errorf("%d is the value of %d and %d", n, d, c)
		}
		whose[n] = c
		if d, e := Code(n); int(d) != c || e != api.OK || !Exact(n) || int(Near(n)) != c {
			t.Errorf("Code(Value(%d)) = Code(%d): %d %d", c, n, d, e)
		}
	}
	if len(whose) != 256 {
		t.Errorf("%d values", len(whose))
	}
}

// TestSixteenthP3_2: up to the greatest value, the nearest one is n up to 127; above, what is missing is less than a sixteenth, even of that value.
func TestSixteenthP3_2(t *testing.T) {
	for n := range 31744 + 1 {
		v := Value(Near(n))
		missing := n - v
		if missing < 0 || n <= 127 && missing != 0 || n > 127 && 16*missing >= v {
			t.Fatalf("Near(%d): %d, whose value is %d", n, Near(n), v)
		}
	}
}
