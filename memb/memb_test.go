package memb

import (
	"fmt"
	"math"
	"slices"
	"testing"

	"stolon/api"
)

// Groups: at either end of those that are asked about, and between.
const (
	least api.Addr = 3758096640 // 224.0.1.0
	group api.Addr = 4009820675 // 239.1.2.3
	most  api.Addr = 4026531839 // 239.255.255.255
)

// greatest is the greatest address.
const greatest api.Addr = 1<<32 - 1

// other is a source of which no record here speaks.
const other api.Addr = 1 << 30

// longest is the longest time.
const longest = 1000000

// times are those of most tests.
var times = api.Timing{Keep: 10, Last: 2}

// held is a source that is kept.
func held(a api.Addr, left int) api.Held { return api.Held{Addr: a, Left: left} }

// in is what is known without Except.
func in(l ...api.Held) api.Memb { return api.Memb{Group: group, Srcs: l} }

// ex is what is known with Except.
func ex(left int, l ...api.Held) api.Memb {
	return api.Memb{Group: group, Except: true, Left: left, Srcs: l}
}

// of is the same, known of another group.
func of(g api.Addr, m api.Memb) api.Memb {
	m.Group = g
	return m
}

// row is a row of addresses.
func row(l ...api.Addr) []api.Addr { return l }

// from is a row of n addresses from a first one on.
func from(first api.Addr, n int) []api.Addr {
	var l []api.Addr
	for i := range n {
		l = append(l, first+api.Addr(i))
	}
	return l
}

// all are sources, kept for one time.
func all(l []api.Addr, left int) []api.Held {
	var r []api.Held
	for _, a := range l {
		r = append(r, held(a, left))
	}
	return r
}

// asks are questions of the group, one for each row of sources.
func asks(rows ...[]api.Addr) []api.Ask {
	var l []api.Ask
	for _, r := range rows {
		l = append(l, api.Ask{Group: group, Srcs: r})
	}
	return l
}

// copied is the same in memory of its own.
func copied(m api.Memb) api.Memb {
	m.Srcs = slices.Clone(m.Srcs)
	return m
}

// same holds two against one another, field by field.
func same(a, b api.Memb) bool {
	return a.Group == b.Group && a.Except == b.Except && a.Left == b.Left && slices.Equal(a.Srcs, b.Srcs)
}

// isAsk: are two questions the same?
func isAsk(a, b api.Ask) bool { return a.Group == b.Group && slices.Equal(a.Srcs, b.Srcs) }

// hears holds what comes of a record against what should.
func hears(t *testing.T, x api.Timing, m api.Memb, kind byte, l []api.Addr, want api.Memb, q []api.Ask, no api.Errno) {
	t.Helper()
	is, got, e := Hear(x, m, kind, l)
	if !same(is, want) || !slices.EqualFunc(got, q, isAsk) || e != no {
		t.Errorf("Hear(%v, %v, %d, %v): %v %v %d, not %v %v %d", x, m, kind, l, is, got, e, want, q, no)
	}
}

// TestMayP8_1: times may be, if Last is 1 to Keep, and Keep at most 1000000.
func TestMayP8_1(t *testing.T) {
	for _, x := range []struct {
		keep, last int
		may        bool
	}{
		{1, 1, true},
		{2, 1, true},
		{2, 2, true},
		{10, 2, true},
		{longest, 1, true},
		{longest, longest, true},
		{longest - 1, longest - 1, true},
		{0, 0, false},
		{0, 1, false},
		{1, 0, false},
		{1, 2, false},
		{9, 10, false},
		{10, -1, false},
		{-1, -1, false},
		{-1, 1, false},
		{longest, 0, false},
		{longest, longest + 1, false},
		{longest + 1, 1, false},
		{longest + 1, longest + 1, false},
		{math.MaxInt, 1, false},
		{math.MaxInt, math.MaxInt, false},
		{math.MinInt, 1, false},
		{math.MinInt, math.MinInt, false},
		{10, math.MinInt, false},
		{10, math.MaxInt, false},
		{1 << 32, 1, false},
		{10, 1<<32 + 1, false},
	} {
		if got := May(api.Timing{Keep: x.keep, Last: x.last}); got != x.may {
			t.Errorf("May(Keep %d, Last %d): %v", x.keep, x.last, got)
		}
	}
}

// TestRightP8_1: what is known is right at the edges that the chapter names.
func TestRightP8_1(t *testing.T) {
	for _, m := range []api.Memb{
		in(),
		in(held(0, 1)),
		in(held(greatest, longest)),
		in(held(1, 1), held(2, longest), held(3, 7)),
		in(held(1<<31-1, 1), held(1<<31, 1)),
		in(held(0, 1), held(greatest, 1)),
		in(all(from(1, 63), 1)...),
		in(all(from(1, 64), 1)...),
		ex(1),
		ex(longest),
		ex(1, held(0, 0)),
		ex(1, held(5, longest)),
		ex(longest, held(5, 0), held(6, 1), held(7, longest)),
		ex(7, all(from(greatest-63, 64), 0)...),
		of(least, in()),
		of(most, in()),
		of(least, ex(1)),
		of(most, ex(1)),
	} {
		if !Right(m) {
			t.Errorf("%v isn't right", m)
		}
	}
}

// TestNotRightP8_1: nothing else is right.
func TestNotRightP8_1(t *testing.T) {
	l := []api.Memb{
		{},
		{Group: group, Left: 1},
		{Group: group, Left: -1},
		{Group: group, Left: longest},
		{Group: group, Left: 1, Srcs: all(row(1), 1)},
		{Group: group, Left: math.MinInt},
		ex(0),
		ex(-1),
		ex(longest + 1),
		ex(math.MaxInt),
		ex(math.MinInt),
		ex(1 << 32),
		ex(0, held(1, 1)),
		ex(longest+1, held(1, 1)),
	}
	for _, g := range []api.Addr{0, 1, least - 1, 3758096384, 3758096383, most + 1, greatest} {
		l = append(l, of(g, in()), of(g, in(held(1, 1))), of(g, ex(1)), of(g, ex(1, held(1, 0))))
	}
	for _, left := range []int{-1, longest + 1, math.MinInt, math.MaxInt, 1 << 32} {
		l = append(l, in(held(1, left)), ex(1, held(1, left)))
		l = append(l, in(held(1, left), held(2, 1)), in(held(1, 1), held(2, left)), in(held(1, 1), held(2, left), held(3, 1)))
		l = append(l, ex(1, held(1, left), held(2, 1)), ex(1, held(1, 1), held(2, left)), ex(1, held(1, 1), held(2, left), held(3, 1)))
	}
	l = append(l, in(held(1, 0)), in(held(1, 0), held(2, 1)), in(held(1, 1), held(2, 0)))
	for _, r := range [][]api.Addr{{1, 1}, {2, 1}, {1, 2, 2}, {1, 3, 2}, {2, 1, 3}, {0, 0}, {greatest, 0}, {1 << 31, 1}, from(1, 65), from(1, 1000)} {
		l = append(l, in(all(r, 1)...), ex(1, all(r, 0)...), ex(1, all(r, 1)...))
	}
	for _, m := range l {
		if Right(m) {
			t.Errorf("%v is right", m)
		}
	}
}

// unlike are things known of which no two are the same; many of them aren't right.
var unlike = []api.Memb{
	{},
	{Left: 1},
	{Except: true},
	{Srcs: make([]api.Held, 1)},
	{Srcs: make([]api.Held, 2)},
	in(),
	of(most, in()),
	{Group: group, Left: -1},
	{Group: group, Left: 1},
	ex(0),
	ex(1),
	ex(2),
	ex(1 + 1<<32),
	ex(math.MinInt),
	of(most, ex(1)),
	in(held(1, 1)),
	in(held(1, 2)),
	in(held(1, 0)),
	in(held(1, -1)),
	in(held(1, 1+1<<32)),
	in(held(2, 1)),
	in(held(greatest, 1)),
	ex(1, held(1, 1)),
	ex(1, held(1, 0)),
	ex(2, held(1, 1)),
	in(held(1, 1), held(2, 1)),
	in(held(2, 1), held(1, 1)),
	in(held(1, 1), held(1, 1)),
	in(held(1, 1), held(2, 2)),
	in(held(1, 2), held(2, 1)),
	in(held(1, 1), held(3, 1)),
	in(all(from(1, 64), 1)...),
	in(all(from(1, 65), 1)...),
	in(all(from(1, 66), 1)...),
}

// TestSameP8_1: two are the same, if all of it is.
func TestSameP8_1(t *testing.T) {
	for i, a := range unlike {
		for j, b := range unlike {
			if Same(a, copied(b)) != (i == j) {
				t.Errorf("Same(%v, %v): not %v", a, b, i == j)
			}
		}
	}
	none := in(make([]api.Held, 0, 3)...)
	if !Same(in(), none) || !Same(none, in()) {
		t.Error("two without sources aren't the same")
	}
}

// TestWantsP8_1: without Except its sources are wanted, with it all but those whose Left is 0.
func TestWantsP8_1(t *testing.T) {
	two, three := held(3, 2), held(7, longest)
	for _, x := range []struct {
		m      api.Memb
		wanted []api.Addr
		not    []api.Addr
	}{
		{in(), nil, row(0, 1, 3, greatest)},
		{in(held(3, 1)), row(3), row(0, 2, 4, greatest)},
		{in(held(0, 1), two, three, held(greatest, 1)), row(0, 3, 7, greatest), row(1, 2, 4, 5, 6, 8, greatest-1, 1<<31)},
		{in(all(from(10, 64), 1)...), from(10, 64), row(0, 9, 74)},
		{ex(1), row(0, 1, 3, 1<<31, greatest), nil},
		{ex(1, held(3, 0)), row(0, 2, 4, greatest), row(3)},
		{ex(9, held(3, 1)), row(0, 2, 3, 4, greatest), nil},
		{ex(9, held(0, 0), two, held(5, 0), three, held(greatest, 0)), row(1, 2, 3, 4, 6, 7, 8, greatest-1), row(0, 5, greatest)},
		{ex(1, all(from(10, 64), 0)...), row(0, 9, 74), from(10, 64)},
	} {
		for _, a := range x.wanted {
			if !Wants(x.m, a) {
				t.Errorf("%v doesn't want %d", x.m, a)
			}
		}
		for _, a := range x.not {
			if Wants(x.m, a) {
				t.Errorf("%v wants %d", x.m, a)
			}
		}
	}
}

// TestSomeP8_1: it is some, if it has Except, or a source.
func TestSomeP8_1(t *testing.T) {
	for _, x := range []struct {
		m    api.Memb
		some bool
	}{
		{in(), false},
		{in(make([]api.Held, 0, 3)...), false},
		{of(most, in()), false},
		{in(held(0, 1)), true},
		{in(held(1, 1), held(2, 1)), true},
		{ex(1), true},
		{ex(1, held(1, 0)), true},
		{ex(1, held(1, 1)), true},
	} {
		if Some(x.m) != x.some {
			t.Errorf("Some(%v): %v", x.m, !x.some)
		}
	}
}

// TestHearWithoutP8_2: records of each type, without Except; Keep is 10, Last is 2.
func TestHearWithoutP8_2(t *testing.T) {
	three := in(held(1, 1), held(2, 2), held(3, 3))
	for _, x := range []struct {
		kind byte
		m    api.Memb
		l    []api.Addr
		want api.Memb
		q    []api.Ask
	}{
		{api.IsIn, in(), nil, in(), nil},
		{api.IsIn, in(), row(5), in(held(5, 10)), nil},
		{api.IsIn, in(), row(0, greatest), in(held(0, 10), held(greatest, 10)), nil},
		{api.IsIn, three, nil, three, nil},
		{api.IsIn, three, row(2, 4), in(held(1, 1), held(2, 10), held(3, 3), held(4, 10)), nil},
		{api.IsIn, three, row(0), in(held(0, 10), held(1, 1), held(2, 2), held(3, 3)), nil},
		{api.IsIn, in(held(4, longest)), row(4), in(held(4, 10)), nil},
		{api.Allow, in(), nil, in(), nil},
		{api.Allow, in(), row(5, 6), in(held(5, 10), held(6, 10)), nil},
		{api.Allow, three, nil, three, nil},
		{api.Allow, three, row(0, 3), in(held(0, 10), held(1, 1), held(2, 2), held(3, 10)), nil},
		{api.IsEx, in(), nil, ex(10), nil},
		{api.IsEx, in(), row(5, 6), ex(10, held(5, 0), held(6, 0)), nil},
		{api.IsEx, three, nil, ex(10), nil},
		{api.IsEx, three, row(2, 3, 4), ex(10, held(2, 2), held(3, 3), held(4, 0)), nil},
		{api.IsEx, three, row(0, 1), ex(10, held(0, 0), held(1, 1)), nil},
		{api.IsEx, in(held(4, longest)), row(4), ex(10, held(4, longest)), nil},
		{api.Block, in(), nil, in(), nil},
		{api.Block, in(), row(5, 6), in(), nil},
		{api.Block, three, nil, three, nil},
		{api.Block, three, row(0, 4, greatest), three, nil},
		{api.Block, three, row(1), three, asks(row(1))},
		{api.Block, three, row(2), three, asks(row(2))},
		{api.Block, three, row(0, 3, 4), in(held(1, 1), held(2, 2), held(3, 2)), asks(row(3))},
		{api.Block, three, row(1, 2, 3), in(held(1, 1), held(2, 2), held(3, 2)), asks(row(1, 2, 3))},
		{api.Block, in(held(4, longest), held(5, longest)), row(4), in(held(4, 2), held(5, longest)), asks(row(4))},
		{api.ToEx, in(), nil, ex(10), nil},
		{api.ToEx, in(), row(5, 6), ex(10, held(5, 0), held(6, 0)), nil},
		{api.ToEx, three, nil, ex(10), nil},
		{api.ToEx, three, row(0, 4), ex(10, held(0, 0), held(4, 0)), nil},
		{api.ToEx, three, row(2, 3, 4), ex(10, held(2, 2), held(3, 2), held(4, 0)), asks(row(2, 3))},
		{api.ToEx, three, row(1), ex(10, held(1, 1)), asks(row(1))},
		{api.ToEx, in(held(4, longest)), row(4), ex(10, held(4, 2)), asks(row(4))},
		{api.ToIn, in(), nil, in(), nil},
		{api.ToIn, in(), row(5), in(held(5, 10)), nil},
		{api.ToIn, three, nil, in(held(1, 1), held(2, 2), held(3, 2)), asks(row(1, 2, 3))},
		{api.ToIn, three, row(1, 2, 3), in(all(row(1, 2, 3), 10)...), nil},
		{api.ToIn, three, row(0, 2), in(held(0, 10), held(1, 1), held(2, 10), held(3, 2)), asks(row(1, 3))},
		{api.ToIn, in(held(4, longest)), row(5), in(held(4, 2), held(5, 10)), asks(row(4))},
	} {
		hears(t, times, x.m, x.kind, x.l, x.want, x.q, api.OK)
	}
}

// TestHearWithP8_2: records of each type, with Except; Keep is 10, Last is 2.
func TestHearWithP8_2(t *testing.T) {
	four := ex(5, held(1, 0), held(2, 2), held(3, 3), held(4, 0))
	for _, x := range []struct {
		kind byte
		m    api.Memb
		l    []api.Addr
		want api.Memb
		q    []api.Ask
	}{
		{api.IsIn, ex(1), nil, ex(1), nil},
		{api.IsIn, ex(1), row(5), ex(1, held(5, 10)), nil},
		{api.IsIn, four, nil, four, nil},
		{api.IsIn, four, row(1, 2, 5), ex(5, held(1, 10), held(2, 10), held(3, 3), held(4, 0), held(5, 10)), nil},
		{api.Allow, ex(longest), row(0, greatest), ex(longest, held(0, 10), held(greatest, 10)), nil},
		{api.Allow, four, nil, four, nil},
		{api.Allow, four, row(0, 3, 4), ex(5, held(0, 10), held(1, 0), held(2, 2), held(3, 10), held(4, 10)), nil},
		{api.Allow, ex(5, held(1, longest)), row(1), ex(5, held(1, 10)), nil},
		{api.IsEx, ex(1), nil, ex(10), nil},
		{api.IsEx, ex(longest), nil, ex(10), nil},
		{api.IsEx, ex(1), row(5, 6), ex(10, held(5, 10), held(6, 10)), nil},
		{api.IsEx, four, nil, ex(10), nil},
		{api.IsEx, four, row(1, 2, 5), ex(10, held(1, 0), held(2, 2), held(5, 10)), nil},
		{api.IsEx, four, row(0, 3, 4), ex(10, held(0, 10), held(3, 3), held(4, 0)), nil},
		{api.IsEx, ex(5, held(1, longest)), row(1), ex(10, held(1, longest)), nil},
		{api.Block, ex(1), nil, ex(1), nil},
		{api.Block, ex(1), row(5), ex(1, held(5, 1)), asks(row(5))},
		{api.Block, ex(2), row(5), ex(2, held(5, 2)), asks(row(5))},
		{api.Block, ex(3), row(5), ex(3, held(5, 2)), asks(row(5))},
		{api.Block, four, nil, four, nil},
		{api.Block, four, row(1, 4), four, nil},
		{api.Block, four, row(2), four, asks(row(2))},
		{api.Block, four, row(1, 3, 5), ex(5, held(1, 0), held(2, 2), held(3, 2), held(4, 0), held(5, 2)), asks(row(3, 5))},
		{api.Block, four, row(0), ex(5, held(0, 2), held(1, 0), held(2, 2), held(3, 3), held(4, 0)), asks(row(0))},
		{api.ToEx, ex(1), nil, ex(10), nil},
		{api.ToEx, ex(1), row(5), ex(10, held(5, 1)), asks(row(5))},
		{api.ToEx, ex(2), row(5), ex(10, held(5, 2)), asks(row(5))},
		{api.ToEx, ex(longest), row(5), ex(10, held(5, 2)), asks(row(5))},
		{api.ToEx, four, nil, ex(10), nil},
		{api.ToEx, four, row(1, 4), ex(10, held(1, 0), held(4, 0)), nil},
		{api.ToEx, four, row(1, 3, 5), ex(10, held(1, 0), held(3, 2), held(5, 2)), asks(row(3, 5))},
		{api.ToEx, ex(1, held(3, 1)), row(2, 3, 4), ex(10, all(row(2, 3, 4), 1)...), asks(row(2, 3, 4))},
		{api.ToIn, ex(1), nil, ex(1), asks(nil)},
		{api.ToIn, ex(2), nil, ex(2), asks(nil)},
		{api.ToIn, ex(3), nil, ex(2), asks(nil)},
		{api.ToIn, ex(longest), row(5), ex(2, held(5, 10)), asks(nil)},
		{api.ToIn, four, nil, ex(2, held(1, 0), held(2, 2), held(3, 2), held(4, 0)), asks(row(2, 3), nil)},
		{api.ToIn, four, row(2, 3), ex(2, held(1, 0), held(2, 10), held(3, 10), held(4, 0)), asks(nil)},
		{api.ToIn, four, row(0, 1, 2), ex(2, held(0, 10), held(1, 10), held(2, 10), held(3, 2), held(4, 0)), asks(row(3), nil)},
		{api.ToIn, ex(1, held(1, 1)), row(4), ex(1, held(1, 1), held(4, 10)), asks(row(1), nil)},
	} {
		hears(t, times, x.m, x.kind, x.l, x.want, x.q, api.OK)
	}
}

// TestHearTimesP8_2: times at their edges count.
func TestHearTimesP8_2(t *testing.T) {
	for _, x := range []api.Timing{{Keep: 1, Last: 1}, {Keep: 2, Last: 1}, {Keep: longest, Last: 1}, {Keep: longest, Last: longest}} {
		k, q := x.Keep, x.Last
		hears(t, x, in(), api.IsIn, row(5), in(held(5, k)), nil, api.OK)
		hears(t, x, in(held(4, longest)), api.ToIn, row(5), in(held(4, q), held(5, k)), asks(row(4)), api.OK)
		hears(t, x, in(held(4, longest)), api.ToEx, row(4, 5), ex(k, held(4, q), held(5, 0)), asks(row(4)), api.OK)
		hears(t, x, ex(longest), api.Block, row(5), ex(longest, held(5, q)), asks(row(5)), api.OK)
		hears(t, x, ex(longest), api.IsEx, row(5), ex(k, held(5, k)), nil, api.OK)
		hears(t, x, ex(longest), api.ToIn, row(5), ex(q, held(5, k)), asks(nil), api.OK)
	}
}

// TestHearGroupP8_2: what is known, and asked, is of its group, whichever that is.
func TestHearGroupP8_2(t *testing.T) {
	for _, g := range []api.Addr{least, group, most} {
		for _, m := range []api.Memb{of(g, in(held(1, 5))), of(g, ex(5, held(1, 5)))} {
			for kind := byte(1); kind <= 6; kind++ {
				is, l, e := Hear(times, m, kind, row(1, 2))
				if is.Group != g || e != api.OK {
					t.Errorf("%v %d", is, e)
				}
				for _, q := range l {
					if q.Group != g {
						t.Errorf("%d of %v asks %v", kind, m, q)
					}
				}
			}
		}
	}
}

// TestHearRowP8_2: a row counts by its set.
func TestHearRowP8_2(t *testing.T) {
	hears(t, times, in(), api.IsIn, row(7, 5, 7, 5), in(held(5, 10), held(7, 10)), nil, api.OK)
	hears(t, times, in(), api.Allow, row(7, 5, 6), in(held(5, 10), held(6, 10), held(7, 10)), nil, api.OK)
	hears(t, times, in(held(5, 3)), api.IsEx, row(7, 5, 7), ex(10, held(5, 3), held(7, 0)), nil, api.OK)
	hears(t, times, in(held(5, 3)), api.Block, row(5, 4, 5), in(held(5, 2)), asks(row(5)), api.OK)
	hears(t, times, ex(9), api.Block, row(7, 5, 5), ex(9, held(5, 2), held(7, 2)), asks(row(5, 7)), api.OK)
	hears(t, times, ex(9, held(6, 0)), api.ToEx, row(6, greatest, 0, 6), ex(10, held(0, 2), held(6, 0), held(greatest, 2)), asks(row(0, greatest)), api.OK)
	hears(t, times, ex(9, held(6, 4), held(7, 4)), api.ToIn, row(6, 1<<31, 6), ex(2, held(6, 10), held(7, 2), held(1<<31, 10)), asks(row(7), nil), api.OK)
	often := slices.Repeat(from(1, 64), 50)
	slices.Reverse(often)
	hears(t, times, in(), api.IsIn, often, in(all(from(1, 64), 10)...), nil, api.OK)
	hears(t, times, in(), api.ToEx, often, ex(10, all(from(1, 64), 0)...), nil, api.OK)
	hears(t, times, ex(1), api.Block, often, ex(1, all(from(1, 64), 1)...), asks(from(1, 64)), api.OK)
}

// TestHearFullP8_2: as many as 64 sources may come of it.
func TestHearFullP8_2(t *testing.T) {
	full, others := all(from(1, 64), 3), from(65, 64)
	some := full[:63]
	with, without := ex(5, full...), in(full...)
	join := func(l []api.Held, s ...api.Held) []api.Held { return slices.Concat(l, s) }
	for _, kind := range []byte{api.IsIn, api.Allow} {
		hears(t, times, in(), kind, others, in(all(others, 10)...), nil, api.OK)
		hears(t, times, in(some...), kind, row(70), in(join(some, held(70, 10))...), nil, api.OK)
		hears(t, times, ex(5, some...), kind, row(70), ex(5, join(some, held(70, 10))...), nil, api.OK)
		hears(t, times, without, kind, from(1, 64), in(all(from(1, 64), 10)...), nil, api.OK)
		hears(t, times, with, kind, from(1, 64), ex(5, all(from(1, 64), 10)...), nil, api.OK)
	}
	hears(t, times, without, api.IsEx, others, ex(10, all(others, 0)...), nil, api.OK)
	hears(t, times, with, api.IsEx, others, ex(10, all(others, 10)...), nil, api.OK)
	hears(t, times, without, api.ToEx, others, ex(10, all(others, 0)...), nil, api.OK)
	hears(t, times, with, api.ToEx, others, ex(10, all(others, 2)...), asks(others), api.OK)
	hears(t, times, in(some...), api.ToIn, row(70), in(join(all(from(1, 63), 2), held(70, 10))...), asks(from(1, 63)), api.OK)
	hears(t, times, ex(5, some...), api.ToIn, row(70), ex(2, join(all(from(1, 63), 2), held(70, 10))...), asks(from(1, 63), nil), api.OK)
	hears(t, times, ex(5, some...), api.Block, row(70), ex(5, join(some, held(70, 2))...), asks(row(70)), api.OK)
	hears(t, times, with, api.Block, from(1, 64), ex(5, all(from(1, 64), 2)...), asks(from(1, 64)), api.OK)
	hears(t, times, without, api.Block, from(1, 5000), in(all(from(1, 64), 2)...), asks(from(1, 64)), api.OK)
	hears(t, times, in(held(9, 9)), api.Block, from(9, 1<<17), in(held(9, 2)), asks(row(9)), api.OK)
}

// TestHearErrFullP8_2: more than 64 don't; then nothing changes, and nothing is asked.
func TestHearErrFullP8_2(t *testing.T) {
	full := all(from(1, 64), 3)
	some := full[:63]
	for _, kind := range []byte{api.IsIn, api.IsEx, api.ToIn, api.ToEx, api.Allow, api.Block} {
		grows := kind != api.IsEx && kind != api.ToEx
		for _, m := range []api.Memb{in(), in(some...), in(full...), ex(5), ex(5, some...), ex(5, full...)} {
			rows := [][]api.Addr{from(1, 65), from(60, 65), from(greatest-64, 65), from(1, 3000)}
			if grows && len(m.Srcs) > 0 {
				rows = append(rows, row(70, 71), row(0, 70), row(1, 2, 70, 71))
			}
			if grows && len(m.Srcs) == 64 {
				rows = append(rows, row(70), row(0), row(greatest, 1), from(1, 64+1))
			}
			for _, l := range rows {
				if kind == api.Block && !m.Except {
					continue // nothing comes to be of it
				}
				hears(t, times, m, kind, l, m, nil, api.ErrFull)
			}
		}
	}
	hears(t, times, in(), api.ToEx, from(1, 1<<17), in(), nil, api.ErrFull)
}

// TestHearErrArgP8_2: of no type nothing is heard, whatever else there is.
func TestHearErrArgP8_2(t *testing.T) {
	for kind := range 256 {
		if 1 <= kind && kind <= 6 {
			continue
		}
		for _, m := range []api.Memb{in(), in(held(1, 9)), ex(9), ex(9, held(1, 0), held(2, 9)), ex(9, all(from(1, 64), 3)...)} {
			for _, l := range [][]api.Addr{nil, {1}, {3, 2, 2}, from(65, 65)} {
				hears(t, times, m, byte(kind), l, m, nil, api.ErrArg)
			}
		}
	}
}

// none is the Left of what is no source.
const none = -1

// one is what the tables of P8.2 say of one address: its Left then, and whether it is asked of.
func one(x api.Timing, m api.Memb, kind byte, isIn bool, left int) (int, bool) {
	asked := false
	switch {
	case kind == api.IsIn || kind == api.Allow:
		if isIn {
			left = x.Keep
		}
	case kind == api.ToIn && isIn:
		left = x.Keep
	case kind == api.ToIn:
		asked = left > 0
	case kind == api.Block && !isIn:
	case !isIn:
		left = none
	case left > 0:
		asked = kind != api.IsEx
	case left == 0:
	case !m.Except && kind != api.Block:
		left = 0
	case m.Except && kind == api.IsEx:
		left = x.Keep
	case m.Except:
		left, asked = m.Left, true
	}
	if asked {
		left = min(left, x.Last)
	}
	return left, asked
}

// after is what comes of a record, address by address, of those of a rising row.
func after(x api.Timing, m api.Memb, kind byte, l, of []api.Addr) (api.Memb, []api.Ask) {
	is := api.Memb{Group: m.Group, Except: m.Except, Left: m.Left}
	var q []api.Ask
	var asked []api.Addr
	for _, a := range of {
		left := none
		for _, s := range m.Srcs {
			if s.Addr == a {
				left = s.Left
			}
		}
		left, isAsked := one(x, m, kind, slices.Contains(l, a), left)
		if left != none {
			is.Srcs = append(is.Srcs, held(a, left))
		}
		if isAsked {
			asked = append(asked, a)
		}
	}
	if len(asked) > 0 {
		q = append(q, api.Ask{Group: m.Group, Srcs: asked})
	}
	switch kind {
	case api.IsEx, api.ToEx:
		is.Except, is.Left = true, x.Keep
	case api.ToIn:
		if m.Except {
			is.Left = min(m.Left, x.Last)
			q = append(q, api.Ask{Group: m.Group})
		}
	}
	return is, q
}

// knowns are all that may be known of some addresses, their Lefts and the group's of some numbers.
func knowns(of []api.Addr, lefts []int) []api.Memb {
	ways := [][]api.Held{nil}
	for _, a := range of {
		for _, w := range slices.Clone(ways) {
			for _, n := range lefts {
				ways = append(ways, slices.Concat(w, all(row(a), n)))
			}
		}
	}
	var l []api.Memb
	for _, w := range ways {
		for _, n := range lefts {
			if m := (api.Memb{Group: group, Except: n > 0, Left: n, Srcs: w}); Right(m) {
				l = append(l, m)
			}
		}
	}
	return l
}

// rows are all rising rows of some addresses.
func rows(of []api.Addr) [][]api.Addr {
	l := [][]api.Addr{nil}
	for _, a := range of {
		for _, r := range slices.Clone(l) {
			l = append(l, slices.Concat(r, row(a)))
		}
	}
	return l
}

// TestHearAllP8_2: all that may be known of three addresses, and all records of them, held against a look at each address.
func TestHearAllP8_2(t *testing.T) {
	of := row(0, 1<<31, greatest)
	for _, x := range []api.Timing{{Keep: 1, Last: 1}, {Keep: 5, Last: 1}, times, {Keep: 10, Last: 10}, {Keep: longest, Last: 3}} {
		for _, m := range knowns(of, []int{0, 1, 2, 3, 10, longest}) {
			for _, l := range rows(of) {
				for kind := byte(1); kind <= 6; kind++ {
					is, q := after(x, m, kind, l, of)
					hears(t, x, m, kind, l, is, q, api.OK)
				}
			}
		}
	}
}

// TestTickP8_3: all Lefts are less, 0 at least; and what is none any more goes.
func TestTickP8_3(t *testing.T) {
	l := []api.Held{held(1, 1), held(2, 2), held(3, 9)}
	for _, x := range []struct {
		m    api.Memb
		n    int
		want api.Memb
	}{
		{in(), 0, in()},
		{in(), 1, in()},
		{in(), math.MaxInt, in()},
		{in(l...), 0, in(l...)},
		{in(l...), -1, in(l...)},
		{in(l...), math.MinInt, in(l...)},
		{in(l...), 1, in(held(2, 1), held(3, 8))},
		{in(l...), 2, in(held(3, 7))},
		{in(l...), 8, in(held(3, 1))},
		{in(l...), 9, in()},
		{in(l...), 10, in()},
		{in(l...), math.MaxInt, in()},
		{ex(1), 0, ex(1)},
		{ex(1), 1, in()},
		{ex(2), 1, ex(1)},
		{ex(2), 2, in()},
		{ex(2), 3, in()},
		{ex(longest), longest - 1, ex(1)},
		{ex(longest), longest, in()},
		{ex(longest), math.MaxInt, in()},
		{ex(4, l...), -7, ex(4, l...)},
		{ex(4, l...), math.MinInt, ex(4, l...)},
		{ex(4, l...), 0, ex(4, l...)},
		{ex(4, l...), 1, ex(3, held(1, 0), held(2, 1), held(3, 8))},
		{ex(4, l...), 3, ex(1, held(1, 0), held(2, 0), held(3, 6))},
		{ex(4, l...), 4, in(held(3, 5))},
		{ex(4, l...), 5, in(held(3, 4))},
		{ex(4, l...), 9, in()},
		{ex(20, l...), 9, ex(11, held(1, 0), held(2, 0), held(3, 0))},
		{ex(20, l...), 19, ex(1, held(1, 0), held(2, 0), held(3, 0))},
		{ex(20, l...), 20, in()},
		{ex(1, held(1, 0), held(2, 1), held(3, 2)), 0, ex(1, held(1, 0), held(2, 1), held(3, 2))},
		{ex(1, held(1, 0), held(2, 1), held(3, 2)), 1, in(held(3, 1))},
		{ex(1, held(1, longest), held(2, 0)), longest - 1, in(held(1, 1))},
		{of(least, ex(2, held(1, 5))), 2, of(least, in(held(1, 3)))},
		{of(most, in(held(1, 5))), 2, of(most, in(held(1, 3)))},
		{ex(1, all(from(1, 64), 2)...), 1, in(all(from(1, 64), 1)...)},
		{ex(2, all(from(1, 64), 0)...), 1, ex(1, all(from(1, 64), 0)...)},
	} {
		if got := Tick(x.m, x.n); !same(got, x.want) {
			t.Errorf("Tick(%v, %d): %v, not %v", x.m, x.n, got, x.want)
		}
	}
}

// TestTicksP8_4: what comes of ticks is right, they add up, and what is kept is wanted as long as it is kept.
func TestTicksP8_4(t *testing.T) {
	of := row(0, 5, greatest)
	for _, m := range knowns(of, []int{0, 1, 2, 3, 5}) {
		for n := range 7 {
			is := Tick(m, n)
			if !Right(is) {
				t.Errorf("Tick(%v, %d): %v isn't right", m, n, is)
			}
			for more := range 4 {
				if two, sum := Tick(is, more), Tick(m, n+more); !same(two, sum) {
					t.Errorf("Ticks %d and %d of %v: %v, not %v", n, more, m, two, sum)
				}
			}
			lasts(t, m, n)
		}
	}
}

// lasts holds what is wanted after n ticks against what was kept for longer.
func lasts(t *testing.T, m api.Memb, n int) {
	t.Helper()
	is := Tick(m, n)
	for _, s := range m.Srcs {
		if n < s.Left && !Wants(is, s.Addr) {
			t.Errorf("Tick(%v, %d) doesn't want %d any more", m, n, s.Addr)
		}
		if n >= s.Left && Wants(is, s.Addr) {
			t.Errorf("Tick(%v, %d) wants %d still", m, n, s.Addr)
		}
	}
	if Wants(is, other) != (m.Except && n < m.Left) || is.Except != Wants(is, other) {
		t.Errorf("Tick(%v, %d) wants others: not %v", m, n, !Wants(is, other))
	}
}

// numbers tells numbers that are the same ones at each run: each from 0 on, below a bound.
func numbers(seed uint32) func(int) int {
	return func(bound int) int {
		seed = seed*1664525 + 1013904223
		return int(seed>>8) % bound
	}
}

// TestWalkP8_4: records and ticks, in any order: what comes out is right, and as it should be; what is refused changes nothing.
func TestWalkP8_4(t *testing.T) {
	of := from(1, 90)
	refused := 0
	for seed := range uint32(20) {
		number := numbers(seed)
		x := api.Timing{Keep: 1 + number(40)}
		x.Last = 1 + number(x.Keep)
		m := in()
		for range 300 {
			if number(4) == 0 {
				m = Tick(m, number(x.Keep/2+1))
			}
			kind, many := byte(1+number(6)), []int{3, 10, 70}[number(3)]
			var l []api.Addr
			for range number(many) {
				l = append(l, of[number(len(of))])
			}
			want, q := after(x, m, kind, l, of)
			no := api.OK
			if len(want.Srcs) > 64 {
				want, q, no = m, nil, api.ErrFull
				refused++
			}
			hears(t, x, m, kind, l, want, q, no)
			m, _, _ = Hear(x, m, kind, l)
			if !Right(m) {
				t.Fatalf("%v isn't right", m)
			}
			lasts(t, m, number(x.Keep+2))
		}
	}
	if refused < 100 {
		t.Errorf("only %d records were refused", refused)
	}
}

// TestStillWantedP8_4: what a record keeps, or leaves, stays wanted for that long; who was asked of goes after Last.
func TestStillWantedP8_4(t *testing.T) {
	for _, m := range knowns(row(5, 7), []int{0, 1, 2, 3, 10}) {
		for kind := byte(1); kind <= 6; kind++ {
			for _, l := range rows(row(5, 6, 7)) {
				is, q, _ := Hear(times, m, kind, l)
				for n := range 12 {
					lasts(t, is, n)
				}
				for _, a := range q {
					for _, s := range a.Srcs {
						if !Wants(is, s) || Wants(Tick(is, times.Last), s) {
							t.Errorf("%d of %v, asked of %d: %v", kind, m, s, is)
						}
					}
				}
			}
		}
	}
}

// TestExample: the example of the chapter, which is the sixth one of the whole.
func TestExample(t *testing.T) {
	m, l, e := Hear(api.Timing{Keep: 10, Last: 2}, api.Memb{Group: group}, 1, []api.Addr{5})
	if e != 0 || len(l) != 0 || len(m.Srcs) != 1 || m.Srcs[0].Addr != 5 || m.Srcs[0].Left != 10 || m.Except || m.Left != 0 {
		t.Errorf("%v %v %d", m, l, e)
	}
}

// answers are what the calls answer of what is known and a row: what is known then, and sources that are asked of.
func answers(m api.Memb, l []api.Addr) ([]api.Memb, [][]api.Addr) {
	var ms []api.Memb
	var asked [][]api.Addr
	for kind := range byte(8) {
		for _, r := range [][]api.Addr{l, l[:2], nil, from(100, 65)} {
			is, q, _ := Hear(times, m, kind, r)
			ms = append(ms, is)
			for _, a := range q {
				asked = append(asked, a.Srcs)
			}
		}
	}
	for _, n := range []int{-1, 0, 1, 3, 20} {
		ms = append(ms, Tick(m, n))
	}
	return ms, asked
}

// scribble writes into all that these have, and have room for.
func scribble(ms []api.Memb, asked [][]api.Addr) {
	for _, m := range ms {
		l := m.Srcs[:cap(m.Srcs)]
		for i := range l {
			l[i] = held(77, 77)
		}
	}
	for _, l := range asked {
		l = l[:cap(l)]
		for i := range l {
			l[i] = 77
		}
	}
}

// roomy is what is known without and with Except, with room behind its sources, in which something stands.
func roomy() []api.Memb {
	a, b := in(held(2, 3), held(4, 1), held(6, 9), held(55, 55), held(66, 66)), ex(3, held(2, 0), held(4, 1), held(6, 9), held(55, 55))
	a.Srcs, b.Srcs = a.Srcs[:3], b.Srcs[:3]
	return []api.Memb{a, b}
}

// TestApart: what is handed in stays as it is, and so does what stands behind it; what comes out is nobody else's; the same is answered again (R3, R4).
func TestApart(t *testing.T) {
	for i, m := range roomy() {
		l := row(6, 2, 4, 2, 9, 88, 99)
		ms, asked := answers(m, l[:5])
		told := fmt.Sprint(ms, asked)
		again, more := answers(m, l[:5])
		if fmt.Sprint(again, more) != told {
			t.Errorf("not the same again: %v", m)
		}
		scribble(ms, asked)
		kept := roomy()[i]
		if !same(m, kept) || !slices.Equal(m.Srcs[:cap(m.Srcs)], kept.Srcs[:cap(kept.Srcs)]) || !slices.Equal(l, row(6, 2, 4, 2, 9, 88, 99)) {
			t.Errorf("what is handed in was written into: %v %v", m.Srcs[:cap(m.Srcs)], l)
		}
		scribble([]api.Memb{m}, [][]api.Addr{l})
		if fmt.Sprint(again, more) != told {
			t.Errorf("what came out changes with what was handed in, or with what else came out: %v", kept)
		}
	}
}

// TestNoneShared: no two lists that come out share anything (R3).
func TestNoneShared(t *testing.T) {
	for _, m := range roomy() {
		ms, asked := answers(m, row(6, 2, 4, 2, 9))
		for i, m := range ms {
			l := m.Srcs[:cap(m.Srcs)]
			for j := range l {
				l[j].Left = i
			}
		}
		for i, l := range asked {
			l = l[:cap(l)]
			for j := range l {
				l[j] = api.Addr(i)
			}
		}
		for i, m := range ms {
			if slices.ContainsFunc(m.Srcs, func(s api.Held) bool { return s.Left != i }) {
				t.Errorf("%d shares: %v", i, m)
			}
		}
		for i, l := range asked {
			if slices.ContainsFunc(l, func(a api.Addr) bool { return a != api.Addr(i) }) {
				t.Errorf("the question %d shares: %v", i, l)
			}
		}
	}
}

// TestAnyArguments: of times and things known that aren't right every call ends, too (R1).
func TestAnyArguments(t *testing.T) {
	for _, m := range unlike {
		for _, x := range []api.Timing{{}, times, {Keep: -1, Last: 5}, {Keep: math.MaxInt, Last: math.MinInt}} {
			for kind := range byte(8) {
				Hear(x, m, kind, nil)
				Hear(x, m, kind, row(2, 1, 1))
			}
			May(x)
		}
		for _, n := range []int{math.MinInt, -1, 0, 1, math.MaxInt} {
			Tick(m, n)
		}
		Right(m)
		Some(m)
		Wants(m, 1)
	}
}
