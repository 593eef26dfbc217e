package querier

import (
	"math"
	"slices"
	"testing"

	"stolon/api"
)

// greatest is the greatest address.
const greatest api.Addr = 1<<32 - 1

// longest is the longest time.
const longest = 1000000

// pace is that of most tests.
var pace = paceOf(5, 2, 3, 4)

// paceOf is a pace: Every, First, Many, Other.
func paceOf(every, first, many, other int) api.Pace {
	return api.Pace{Every: every, First: first, Many: many, Other: other}
}

// asker is one of address 7 that asks.
func asker(next, soon int) api.Querier { return api.Querier{Me: 7, Next: next, Soon: soon} }

// waiter is one of address 7 in whose place another one asks.
func waiter(other api.Addr, left, next, soon int) api.Querier {
	return api.Querier{Me: 7, Other: other, Left: left, Next: next, Soon: soon}
}

// of is the same of another address.
func of(me api.Addr, q api.Querier) api.Querier {
	q.Me = me
	return q
}

// paces are all of some small numbers.
func paces() []api.Pace {
	var l []api.Pace
	for every := 1; every <= 4; every++ {
		for first := 1; first <= 4; first++ {
			for many := 1; many <= 3; many++ {
				for other := 1; other <= 5; other++ {
					l = append(l, paceOf(every, first, many, other))
				}
			}
		}
	}
	return l
}

// ticked is a querier so many ticks on, and at which of them it asked.
func ticked(p api.Pace, q api.Querier, ticks int) (api.Querier, []int) {
	var at []int
	for i := range ticks {
		var now bool
		if q, now = Tick(p, q); now {
			at = append(at, i)
		}
	}
	return q, at
}

// TestMayP10_1: a pace may be, if Every, First and Other are 1 to 1000000, and Many is 1 to 100.
func TestMayP10_1(t *testing.T) {
	for _, p := range []api.Pace{
		paceOf(1, 1, 1, 1),
		paceOf(longest, longest, 100, longest),
		paceOf(longest, 1, 1, 1),
		paceOf(1, longest, 1, 1),
		paceOf(1, 1, 100, 1),
		paceOf(1, 1, 1, longest),
		paceOf(5, 2, 3, 4),
		paceOf(2, 5, 99, 999999),
		paceOf(101, 102, 2, 103),
	} {
		if !May(p) {
			t.Errorf("%v may not be", p)
		}
	}
}

// notTimes are numbers that are none of a pace's times.
var notTimes = []int{0, -1, -2, -5, -longest, longest + 1, 2 * longest, 1 << 31, 1 << 32, 1<<32 + 1, -1<<32 + 1, math.MaxInt, math.MinInt, math.MinInt + 1}

// notMany are numbers that are none of a pace's questions at the beginning.
var notMany = []int{0, -1, -2, -3, -100, 101, 102, 256, 257, longest, 1<<16 + 1, 1<<32 + 1, math.MaxInt, math.MinInt, math.MinInt + 1}

// wrongPaces are some that may not be.
func wrongPaces() []api.Pace {
	l := []api.Pace{{}, paceOf(-1, -1, -1, -1), paceOf(0, 0, 3, 0), paceOf(longest+1, longest+1, 101, longest+1)}
	for _, n := range notTimes {
		l = append(l, paceOf(n, 2, 3, 4), paceOf(5, n, 3, 4), paceOf(5, 2, 3, n), paceOf(n, n, 3, n))
	}
	for _, n := range notMany {
		l = append(l, paceOf(5, 2, n, 4), paceOf(longest, longest, n, longest))
	}
	return l
}

// TestMayNotP10_1: no other one may be.
func TestMayNotP10_1(t *testing.T) {
	for _, p := range wrongPaces() {
		if May(p) {
			t.Errorf("%v may be", p)
		}
	}
}

// TestRightP10_1: a querier is right at the edges that the chapter names.
func TestRightP10_1(t *testing.T) {
	for _, q := range []api.Querier{
		{Me: 1},
		{Me: greatest},
		{Me: 1 << 31},
		{Me: 1, Next: longest, Soon: 100},
		asker(0, 0),
		asker(0, 1),
		asker(0, 100),
		asker(1, 0),
		asker(longest, 0),
		asker(longest-1, 99),
		waiter(1, 1, 0, 0),
		waiter(6, 1, 0, 0),
		waiter(6, longest, longest, 100),
		waiter(3, longest, 0, 0),
		waiter(3, 4, 101, 50),
		of(2, waiter(1, 1, 0, 0)),
		of(greatest, waiter(1, 1, 0, 0)),
		of(greatest, waiter(greatest-1, longest, longest, 100)),
		of(1<<31, waiter(1<<31-1, 1, 0, 0)),
		of(1<<31+1, waiter(1<<31, 1, 0, 0)),
	} {
		if !Right(q) {
			t.Errorf("%v isn't right", q)
		}
	}
}

// wrongs are queriers that aren't right.
func wrongs() []api.Querier {
	l := []api.Querier{
		{},
		{Next: 1},
		{Soon: 1},
		{Other: 1, Left: 1},
		{Other: greatest, Left: 1},
		{Left: 1},
		{Left: -1},
		of(1, waiter(1, 1, 0, 0)),
		of(1, waiter(2, 1, 0, 0)),
		of(1<<31, waiter(1<<31, 1, 0, 0)),
		of(1<<31-1, waiter(1<<31, 1, 0, 0)),
		of(greatest, waiter(greatest, 1, 0, 0)),
		of(greatest-1, waiter(greatest, 1, 0, 0)),
	}
	for _, other := range []api.Addr{7, 8, 9, 7 << 8, 1 << 31, greatest} {
		l = append(l, waiter(other, 1, 0, 0), waiter(other, longest, 3, 2), waiter(other, 0, 0, 0))
	}
	for _, left := range []int{1, -1, 2, longest, longest + 1, 1 << 32, math.MaxInt, math.MinInt} {
		l = append(l, waiter(0, left, 0, 0), waiter(0, left, 3, 2))
	}
	for _, left := range notTimes {
		l = append(l, waiter(1, left, 0, 0), waiter(6, left, 3, 2))
	}
	for _, next := range []int{-1, -2, -longest, longest + 1, 1 << 32, 1<<32 + 1, -1 << 32, math.MaxInt, math.MinInt} {
		l = append(l, asker(next, 0), asker(next, 2), waiter(6, 1, next, 0))
	}
	for _, soon := range []int{-1, -2, -100, 101, 102, 256, longest, 1 << 32, 1<<32 + 1, -1 << 32, math.MaxInt, math.MinInt} {
		l = append(l, asker(0, soon), asker(2, soon), waiter(6, 1, 0, soon))
	}
	return l
}

// TestNotRightP10_1: no other one is right.
func TestNotRightP10_1(t *testing.T) {
	for _, q := range wrongs() {
		if Right(q) {
			t.Errorf("%v is right", q)
		}
	}
}

// TestAsksP10_1: it asks, if Other is 0, right or not.
func TestAsksP10_1(t *testing.T) {
	for _, x := range []struct {
		q    api.Querier
		asks bool
	}{
		{api.Querier{}, true},
		{asker(0, 0), true},
		{asker(0, 3), true},
		{asker(longest, 100), true},
		{of(greatest, asker(1, 1)), true},
		{of(1, asker(1, 1)), true},
		{waiter(0, 5, 0, 0), true},
		{waiter(0, -1, -1, -1), true},
		{waiter(1, 1, 0, 0), false},
		{waiter(6, longest, 0, 3), false},
		{waiter(6, 0, 0, 0), false},
		{waiter(7, 1, 0, 0), false},
		{waiter(8, 1, 0, 0), false},
		{waiter(1<<31, 1, 0, 0), false},
		{waiter(greatest, 1, 0, 0), false},
		{of(0, waiter(1, 0, 0, 0)), false},
		{of(greatest, waiter(1<<24, 3, 2, 1)), false},
	} {
		if Asks(x.q) != x.asks {
			t.Errorf("Asks(%v): %v", x.q, !x.asks)
		}
	}
}

// TestNewP10_1: a new one asks, at once, and Many times soon.
func TestNewP10_1(t *testing.T) {
	for _, x := range []struct {
		p    api.Pace
		me   api.Addr
		want api.Querier
	}{
		{pace, 7, api.Querier{Me: 7, Soon: 3}},
		{pace, 1, api.Querier{Me: 1, Soon: 3}},
		{pace, greatest, api.Querier{Me: greatest, Soon: 3}},
		{paceOf(1, 1, 1, 1), 1 << 31, api.Querier{Me: 1 << 31, Soon: 1}},
		{paceOf(longest, longest, 100, longest), greatest, api.Querier{Me: greatest, Soon: 100}},
		{paceOf(longest, 1, 1, 1), 167772161, api.Querier{Me: 167772161, Soon: 1}},
		{paceOf(1, longest, 2, 1), 2, api.Querier{Me: 2, Soon: 2}},
		{paceOf(1, 1, 99, longest), 3, api.Querier{Me: 3, Soon: 99}},
	} {
		if q, e := New(x.p, x.me); q != x.want || e != 0 || !Right(q) || !Asks(q) {
			t.Errorf("New(%v, %d): %v %d, not %v", x.p, x.me, q, e, x.want)
		}
	}
}

// TestNewErrArgP10_1: of a pace that may not be, and of the address 0, there is none, and nothing beside.
func TestNewErrArgP10_1(t *testing.T) {
	refused := func(p api.Pace, me api.Addr) {
		if q, e := New(p, me); q != (api.Querier{}) || e != 1 {
			t.Errorf("New(%v, %d): %v %d", p, me, q, e)
		}
	}
	for _, p := range wrongPaces() {
		for _, me := range []api.Addr{0, 1, 7, greatest} {
			refused(p, me)
		}
	}
	refused(pace, 0)
	refused(paceOf(1, 1, 1, 1), 0)
	refused(paceOf(longest, longest, 100, longest), 0)
}

// TestHearP10_2: the least address that is heard of asks, for Other ticks from then on.
func TestHearP10_2(t *testing.T) {
	short, long := paceOf(9, 9, 9, 1), paceOf(1, 1, 1, longest)
	for _, x := range []struct {
		p    api.Pace
		q    api.Querier
		from api.Addr
		want api.Querier
	}{
		{pace, asker(0, 3), 0, asker(0, 3)},
		{pace, asker(0, 3), 7, asker(0, 3)},
		{pace, asker(0, 3), 8, asker(0, 3)},
		{pace, asker(0, 3), 1 << 31, asker(0, 3)},
		{pace, asker(0, 3), greatest, asker(0, 3)},
		{pace, asker(0, 3), 6, waiter(6, 4, 0, 3)},
		{pace, asker(0, 3), 1, waiter(1, 4, 0, 3)},
		{pace, asker(9, 0), 3, waiter(3, 4, 9, 0)},
		{pace, asker(longest, 100), 3, waiter(3, 4, longest, 100)},
		{short, asker(2, 1), 5, waiter(5, 1, 2, 1)},
		{long, asker(2, 1), 5, waiter(5, longest, 2, 1)},
		{pace, waiter(3, 2, 1, 5), 0, waiter(3, 2, 1, 5)},
		{pace, waiter(3, 2, 1, 5), 1, waiter(1, 4, 1, 5)},
		{pace, waiter(3, 2, 1, 5), 2, waiter(2, 4, 1, 5)},
		{pace, waiter(3, 2, 1, 5), 3, waiter(3, 4, 1, 5)},
		{pace, waiter(3, 2, 1, 5), 4, waiter(3, 2, 1, 5)},
		{pace, waiter(3, 2, 1, 5), 6, waiter(3, 2, 1, 5)},
		{pace, waiter(3, 2, 1, 5), 7, waiter(3, 2, 1, 5)},
		{pace, waiter(3, 2, 1, 5), 8, waiter(3, 2, 1, 5)},
		{pace, waiter(3, 2, 1, 5), greatest, waiter(3, 2, 1, 5)},
		{pace, waiter(3, 9, 0, 0), 3, waiter(3, 4, 0, 0)},
		{pace, waiter(3, longest, 0, 0), 2, waiter(2, 4, 0, 0)},
		{pace, waiter(3, 4, 0, 0), 3, waiter(3, 4, 0, 0)},
		{pace, waiter(1, 1, 0, 0), 1, waiter(1, 4, 0, 0)},
		{pace, waiter(1, 1, 0, 0), 0, waiter(1, 1, 0, 0)},
		{pace, waiter(6, 1, longest, 100), 6, waiter(6, 4, longest, 100)},
		{pace, waiter(6, 1, 0, 0), 5, waiter(5, 4, 0, 0)},
		{short, waiter(6, longest, 0, 0), 6, waiter(6, 1, 0, 0)},
		{long, waiter(6, 1, 0, 0), 6, waiter(6, longest, 0, 0)},
	} {
		if got := Hear(x.p, x.q, x.from); got != x.want {
			t.Errorf("Hear(%v, %v, %d): %v, not %v", x.p, x.q, x.from, got, x.want)
		}
	}
}

// TestHearEdgesP10_2: addresses at either end are held against one another as they are.
func TestHearEdgesP10_2(t *testing.T) {
	for _, x := range []struct {
		me, other, from, want api.Addr
	}{
		{1, 0, 0, 0},
		{1, 0, 1, 0},
		{1, 0, 2, 0},
		{1, 0, greatest, 0},
		{2, 0, 1, 1},
		{greatest, 0, 0, 0},
		{greatest, 0, greatest, 0},
		{greatest, 0, greatest - 1, greatest - 1},
		{greatest, 0, 1, 1},
		{greatest, greatest - 1, greatest - 2, greatest - 2},
		{greatest, greatest - 2, greatest - 1, greatest - 2},
		{greatest, 1 << 31, 1<<31 - 1, 1<<31 - 1},
		{greatest, 1<<31 - 1, 1 << 31, 1<<31 - 1},
		{1 << 31, 0, 1<<31 - 1, 1<<31 - 1},
		{1 << 31, 0, 1<<31 + 1, 0},
		{1<<31 - 1, 0, 1 << 31, 0},
		{256, 0, 255, 255},
		{256, 255, 1, 1},
		{0x0a000002, 0, 0x0a000001, 0x0a000001},
		{0x0a000002, 0, 0x01000003, 0x01000003},
		{0x0a000002, 0x0a000001, 0x01000003, 0x01000003},
		{0x0a000002, 0x01000003, 0x0a000001, 0x01000003},
		{0x0a000002, 0, 0x0b000001, 0},
	} {
		q := api.Querier{Me: x.me, Other: x.other, Next: 1, Soon: 2}
		if x.other > 0 {
			q.Left = 3
		}
		want := q
		want.Other = x.want
		if x.want != x.other {
			want.Left = 4
		}
		if got := Hear(pace, q, x.from); got != want {
			t.Errorf("%v hears %d: %v, not %v", q, x.from, got, want)
		}
	}
}

// TestTickP10_3: what one tick does.
func TestTickP10_3(t *testing.T) {
	ones, longs := paceOf(1, 1, 1, 1), paceOf(longest, longest, 100, longest)
	for _, x := range []struct {
		p    api.Pace
		q    api.Querier
		want api.Querier
		now  bool
	}{
		{pace, asker(0, 0), asker(4, 0), true},
		{pace, asker(0, 1), asker(4, 0), true},
		{pace, asker(0, 2), asker(1, 1), true},
		{pace, asker(0, 3), asker(1, 2), true},
		{pace, asker(0, 100), asker(1, 99), true},
		{pace, asker(1, 0), asker(0, 0), false},
		{pace, asker(1, 1), asker(0, 1), false},
		{pace, asker(1, 3), asker(0, 3), false},
		{pace, asker(2, 2), asker(1, 2), false},
		{pace, asker(longest, 100), asker(longest-1, 100), false},
		{pace, of(1, asker(0, 3)), of(1, asker(1, 2)), true},
		{pace, of(greatest, asker(0, 1)), of(greatest, asker(4, 0)), true},
		{pace, of(greatest, asker(3, 1)), of(greatest, asker(2, 1)), false},
		{ones, asker(0, 0), asker(0, 0), true},
		{ones, asker(0, 1), asker(0, 0), true},
		{ones, asker(0, 2), asker(0, 1), true},
		{ones, asker(1, 2), asker(0, 2), false},
		{longs, asker(0, 0), asker(longest-1, 0), true},
		{longs, asker(0, 1), asker(longest-1, 0), true},
		{longs, asker(0, 2), asker(longest-1, 1), true},
		{paceOf(longest, 1, 2, 1), asker(0, 2), asker(0, 1), true},
		{paceOf(longest, 1, 2, 1), asker(0, 1), asker(longest-1, 0), true},
		{paceOf(1, longest, 2, 1), asker(0, 2), asker(longest-1, 1), true},
		{paceOf(1, longest, 2, 1), asker(0, 1), asker(0, 0), true},
		{pace, waiter(3, 1, 0, 0), asker(0, 3), false},
		{pace, waiter(3, 1, 9, 1), asker(0, 3), false},
		{pace, waiter(3, 1, longest, 100), asker(0, 3), false},
		{pace, waiter(3, 2, 0, 0), waiter(3, 1, 0, 0), false},
		{pace, waiter(3, 2, 9, 1), waiter(3, 1, 9, 1), false},
		{pace, waiter(1, 3, 1, 100), waiter(1, 2, 1, 100), false},
		{pace, waiter(6, longest, longest, 2), waiter(6, longest-1, longest, 2), false},
		{ones, waiter(6, 1, 0, 0), asker(0, 1), false},
		{longs, waiter(6, 1, 5, 5), asker(0, 100), false},
		{pace, of(greatest, waiter(1, 1, 5, 5)), of(greatest, asker(0, 3)), false},
		{pace, of(greatest, waiter(greatest-1, 2, 5, 5)), of(greatest, waiter(greatest-1, 1, 5, 5)), false},
		{pace, of(2, waiter(1, 1, 5, 5)), of(2, asker(0, 3)), false},
	} {
		if got, now := Tick(x.p, x.q); got != x.want || now != x.now {
			t.Errorf("Tick(%v, %v): %v %v, not %v %v", x.p, x.q, got, now, x.want, x.now)
		}
	}
}

// TestSilentP10_3: where another one is heard of no more, it is waited for Other ticks, and then asked anew.
func TestSilentP10_3(t *testing.T) {
	for _, p := range append(paces(), paceOf(3, 2, 2, 1000), paceOf(longest, 2, 2, longest)) {
		q, _ := New(p, 7)
		q, _ = ticked(p, q, 5)
		q = Hear(p, q, 3)
		q, at := ticked(p, q, p.Other-1)
		if len(at) > 0 || q.Other != 3 || q.Left != 1 || Asks(q) {
			t.Errorf("%v: %v %v", p, q, at)
		}
		q, now := Tick(p, q)
		if fresh, _ := New(p, 7); q != fresh || now {
			t.Errorf("%v: %v %v", p, q, now)
		}
		if _, now = Tick(p, q); !now {
			t.Errorf("%v: doesn't ask", p)
		}
	}
}

// asked are the ticks at which one that hears nothing asks, by the words of P10.4: Many times, each First ticks, and then each Every ticks, so many times.
func asked(p api.Pace, then int) []int {
	l := []int{0}
	for len(l) < p.Many {
		l = append(l, p.First*len(l))
	}
	last := l[len(l)-1]
	for i := range then {
		l = append(l, last+p.Every*(i+1))
	}
	return l
}

// TestAloneP10_4: one that hears nothing asks Many times, each First ticks, and then each Every ticks.
func TestAloneP10_4(t *testing.T) {
	l := append(paces(), pace, paceOf(1, 1, 1, 1), paceOf(1, 1, 100, 1), paceOf(7, 3, 100, 2), paceOf(3, 7, 100, 2), paceOf(1000, 1, 1, 1))
	l = append(l, paceOf(longest, 1, 2, 1), paceOf(1, longest, 2, 1))
	for _, p := range l {
		q, e := New(p, 1)
		if e != 0 {
			t.Fatal(p, e)
		}
		want := asked(p, 3)
		q, at := ticked(p, q, want[len(want)-1]+1)
		if !slices.Equal(at, want) || !Right(q) || q != (api.Querier{Me: 1, Next: p.Every - 1}) {
			t.Errorf("%v: %v at %v, not at %v", p, q, at, want)
		}
	}
}

// TestDeafP10_4: what isn't of a lesser address leaves the times of questions as they are.
func TestDeafP10_4(t *testing.T) {
	for _, p := range paces() {
		q, _ := New(p, 7)
		want := asked(p, 3)
		var at []int
		for i := range want[len(want)-1] + 1 {
			var now bool
			q = Hear(p, q, []api.Addr{0, 7, 8, greatest}[i%4])
			if q, now = Tick(p, q); now {
				at = append(at, i)
			}
		}
		if !slices.Equal(at, want) {
			t.Errorf("%v: at %v, not at %v", p, at, want)
		}
	}
}

// both are two queriers that hear one another's questions when a tick is over.
type both struct {
	p            api.Pace
	lesser, more api.Querier
}

// tick goes on, and tells who asked.
func (b *both) tick() (bool, bool) {
	var one, two bool
	b.lesser, one = Tick(b.p, b.lesser)
	b.more, two = Tick(b.p, b.more)
	if one {
		b.more = Hear(b.p, b.more, b.lesser.Me)
	}
	if two {
		b.lesser = Hear(b.p, b.lesser, b.more.Me)
	}
	return one, two
}

// TestTwoP10_4: of two that hear one another's questions the one of the lesser address asks, as one that hears nothing does, whenever it comes; the other one waits, unless more than Other ticks go by between two questions.
func TestTwoP10_4(t *testing.T) {
	for _, p := range append(paces(), pace, paceOf(9, 9, 100, 9), paceOf(9, 8, 2, 7)) {
		for late := range 12 {
			more, _ := New(p, greatest)
			more, _ = ticked(p, more, late)
			lesser, _ := New(p, greatest-1)
			b := both{p, lesser, more}
			want := asked(p, 3)
			var at []int
			for i := range want[len(want)-1] + 1 {
				one, two := b.tick()
				if one {
					at = append(at, i)
				}
				if i > 0 && two && p.Other >= max(p.Every, p.First) {
					t.Errorf("%v, %d: both ask at %d", p, late, i)
				}
				if !Asks(b.lesser) || !Right(b.lesser) || !Right(b.more) || one && Asks(b.more) {
					t.Errorf("%v, %d: %v, %v", p, late, b.lesser, b.more)
				}
			}
			if !slices.Equal(at, want) {
				t.Errorf("%v, %d: at %v, not at %v", p, late, at, want)
			}
		}
	}
}

// TestTwoThenOneP10_4: when the one that asks is silent, the other one takes its turn, as a new one; and gives it back.
func TestTwoThenOneP10_4(t *testing.T) {
	for _, p := range paces() {
		lesser, _ := New(p, 5)
		more, _ := New(p, 6)
		b := both{p, lesser, more}
		b.tick()
		var want []int
		for _, i := range asked(p, 2) {
			want = append(want, i+p.Other)
		}
		alone, at := ticked(p, b.more, want[len(want)-1]+1)
		if !slices.Equal(at, want) {
			t.Errorf("%v: at %v, not at %v", p, at, want)
		}
		if Asks(b.more) || !Asks(alone) || Asks(Hear(p, alone, 5)) {
			t.Errorf("%v: %v, %v", p, b.more, alone)
		}
	}
}

// clock is a querier's turn by ticks that are counted from its beginning on: this one; till when another one is heard of; at which it asks next; how often it asked since it had to.
type clock struct {
	p                  api.Pace
	me, other          api.Addr
	now, until, at, is int
}

func (c clock) hear(from api.Addr) clock {
	if 0 < from && from < c.me && (c.other == 0 || from <= c.other) {
		c.other, c.until = from, c.now+c.p.Other
	}
	return c
}

func (c clock) tick() (clock, bool) {
	now := c.other == 0 && c.now == c.at
	c.now++
	if now {
		c.is++
		c.at += c.p.First
		if c.is >= c.p.Many {
			c.at += c.p.Every - c.p.First
		}
	}
	if c.other > 0 && c.now == c.until {
		c.other, c.at, c.is = 0, c.now, 0
	}
	return c, now
}

// isOf: is it as a querier is?
func (c clock) isOf(q api.Querier) bool {
	if q.Me != c.me || q.Other != c.other || q.Soon != max(c.p.Many-c.is, 0) {
		return false
	}
	if c.other > 0 {
		return q.Left == c.until-c.now
	}
	return q.Left == 0 && q.Next == c.at-c.now
}

// walk goes on in all ways, so many steps: a tick, or a question of a few addresses.
func walk(t *testing.T, c clock, q api.Querier, steps int) {
	if !c.isOf(q) || !Right(q) || Asks(q) != (c.other == 0) {
		t.Fatalf("%v: %v", c, q)
	}
	if steps == 0 {
		return
	}
	for _, from := range []api.Addr{0, 1, 2, 3, 4} {
		walk(t, c.hear(from), Hear(c.p, q, from), steps-1)
	}
	on, should := c.tick()
	next, now := Tick(c.p, q)
	if now != should {
		t.Fatalf("%v: %v asks: %v", c, q, now)
	}
	walk(t, on, next, steps-1)
}

// TestWalkP10_4: questions and ticks, in any order: what comes out is right, and as it should be.
func TestWalkP10_4(t *testing.T) {
	for _, p := range []api.Pace{paceOf(1, 1, 1, 1), paceOf(2, 1, 2, 2), paceOf(1, 2, 2, 3), paceOf(3, 2, 3, 1), pace} {
		q, _ := New(p, 3)
		walk(t, clock{p: p, me: 3}, q, 7)
	}
}

// TestLongWalkP10_4: the same, over many steps that a short rule tells.
func TestLongWalkP10_4(t *testing.T) {
	for i, p := range paces() {
		q, _ := New(p, 3)
		c, n := clock{p: p, me: 3}, uint32(i)
		for range 2000 {
			n = n*1664525 + 1013904223
			if from := api.Addr(n >> 24); from < 20 {
				from %= 5
				c, q = c.hear(from), Hear(p, q, from)
			} else {
				var should, now bool
				c, should = c.tick()
				if q, now = Tick(p, q); now != should {
					t.Fatalf("%v: %v asks: %v", c, q, now)
				}
			}
			if !c.isOf(q) || !Right(q) {
				t.Fatalf("%v: %v", c, q)
			}
		}
	}
}

// someRight are right ones at the edges and between.
func someRight() []api.Querier {
	var l []api.Querier
	for _, me := range []api.Addr{2, 7, 1 << 31, greatest} {
		for _, next := range []int{0, 1, 2, longest} {
			for _, soon := range []int{0, 1, 2, 100} {
				l = append(l, api.Querier{Me: me, Next: next, Soon: soon})
				for _, other := range []api.Addr{1, me - 1} {
					for _, left := range []int{1, 2, longest} {
						l = append(l, api.Querier{Me: me, Other: other, Left: left, Next: next, Soon: soon})
					}
				}
			}
		}
	}
	return l
}

// somePaces are some at the edges and between.
func somePaces() []api.Pace {
	var l []api.Pace
	for _, every := range []int{1, 2, longest} {
		for _, first := range []int{1, 2, longest} {
			for _, many := range []int{1, 2, 100} {
				for _, other := range []int{1, 2, longest} {
					l = append(l, paceOf(every, first, many, other))
				}
			}
		}
	}
	return l
}

// TestComesOutRightP10_4: what comes out of what is right, at its edges, is right.
func TestComesOutRightP10_4(t *testing.T) {
	for _, q := range someRight() {
		if !Right(q) {
			t.Fatalf("%v isn't right", q)
		}
		for _, p := range somePaces() {
			for _, from := range []api.Addr{0, 1, 2, 6, 7, 8, 1<<31 - 1, 1 << 31, greatest - 1, greatest, q.Other - 1, q.Other, q.Other + 1} {
				if is := Hear(p, q, from); !Right(is) {
					t.Errorf("Hear(%v, %v, %d): %v", p, q, from, is)
				}
			}
			if is, _ := Tick(p, q); !Right(is) {
				t.Errorf("Tick(%v, %v): %v", p, q, is)
			}
		}
	}
}

// TestExample: the example of the chapter.
func TestExample(t *testing.T) {
	q, e := New(pace, 7)
	q, now := Tick(pace, q)
	if e != 0 || !now || q != asker(1, 2) {
		t.Errorf("%v %v %d", q, now, e)
	}
}

// answer is all that the calls answer of some arguments.
type answer struct {
	may, right, asks, now bool
	fresh, heard, ticked  api.Querier
	e                     api.Errno
}

func answerOf(p api.Pace, q api.Querier, from api.Addr) answer {
	a := answer{may: May(p), right: Right(q), asks: Asks(q), heard: Hear(p, q, from)}
	a.fresh, a.e = New(p, from)
	a.ticked, a.now = Tick(p, q)
	return a
}

// TestAgain: the same is answered again, whatever was asked between (R4).
func TestAgain(t *testing.T) {
	var first []answer
	for round := range 2 {
		i := 0
		for _, q := range append(someRight(), wrongs()...) {
			for _, p := range append(somePaces(), wrongPaces()...) {
				a := answerOf(p, q, 6)
				if round == 0 {
					first = append(first, a)
				} else if first[i] != a {
					t.Fatalf("%v, %v: %v, and then %v", p, q, first[i], a)
				}
				i++
			}
		}
	}
}

// TestAnyArguments: of paces and queriers that may not be every call ends, too (R1).
func TestAnyArguments(t *testing.T) {
	for _, q := range append(wrongs(), someRight()...) {
		for _, p := range append(wrongPaces(), pace) {
			for _, from := range []api.Addr{0, 1, 7, greatest} {
				answerOf(p, q, from)
			}
		}
	}
}
