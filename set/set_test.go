package set

import (
	"slices"
	"testing"

	"stolon/api"
)

// greatest is the greatest address.
const greatest api.Addr = 1<<32 - 1

// edges are addresses, rising: the least and the greatest ones, and those where a sign would be.
var edges = row(0, 1, 2, 1<<31-1, 1<<31, greatest-1, greatest)

// row is a row of addresses.
func row(l ...api.Addr) []api.Addr { return l }

// in is a filter without Except.
func in(l ...api.Addr) api.Filter { return api.Filter{Srcs: l} }

// ex is a filter with Except.
func ex(l ...api.Addr) api.Filter { return api.Filter{Except: true, Srcs: l} }

// subsets are all sets of addresses that rise: the empty one first.
func subsets(of []api.Addr) [][]api.Addr {
	l := make([][]api.Addr, 1<<len(of))
	for i := range l {
		for j, a := range of {
			if i>>j&1 == 1 {
				l[i] = append(l[i], a)
			}
		}
	}
	return l
}

// rows are all rows of up to n of some addresses.
func rows(of []api.Addr, n int) [][]api.Addr {
	all := [][]api.Addr{nil}
	last := all
	for range n {
		var next [][]api.Addr
		for _, l := range last {
			for _, a := range of {
				next = append(next, slices.Concat(l, row(a)))
			}
		}
		all = append(all, next...)
		last = next
	}
	return all
}

// steps are n addresses, rising by a step.
func steps(first, step api.Addr, n int) []api.Addr {
	var l []api.Addr
	for i := range n {
		l = append(l, first+step*api.Addr(i))
	}
	return l
}

// has tells whether an address is in a row, by a look at each.
func has(l []api.Addr, a api.Addr) bool {
	for _, x := range l {
		if x == a {
			return true
		}
	}
	return false
}

// wants tells whether a filter wants an address, by the word.
func wants(f api.Filter, a api.Addr) bool {
	if f.Except {
		return !has(f.Srcs, a)
	}
	return has(f.Srcs, a)
}

// chosen are those of a rising row that are right.
func chosen(of []api.Addr, right func(api.Addr) bool) []api.Addr {
	var l []api.Addr
	for _, a := range of {
		if right(a) {
			l = append(l, a)
		}
	}
	return l
}

// comes holds an answer against the row that it should be.
func comes(t *testing.T, what string, got, want []api.Addr) {
	t.Helper()
	if !slices.Equal(got, want) {
		t.Errorf("%s: %v, not %v", what, got, want)
	}
}

// TestRightP6_1: a set rises, none twice.
func TestRightP6_1(t *testing.T) {
	for _, l := range [][]api.Addr{
		nil, {}, {0}, {5}, {greatest}, {0, 1}, {1, 5}, {0, greatest}, {1<<31 - 1, 1 << 31}, {greatest - 1, greatest},
		{1, 2, 3}, edges, steps(0, 1, 1000), steps(7, 4000000, 1000), make([]api.Addr, 1, 8),
	} {
		if !Right(l) {
			t.Errorf("Right(%v): no", l)
		}
	}
	for _, l := range [][]api.Addr{
		{0, 0}, {1, 1}, {greatest, greatest}, {1, 0}, {2, 1}, {greatest, 0}, {1 << 31, 1<<31 - 1},
		{1, 2, 2}, {1, 1, 2}, {2, 1, 3}, {1, 3, 2}, {1, 2, 1}, {3, 2, 1}, {1, 2, 3, 4, 4}, {1, 2, 3, 4, 0},
		append(steps(0, 1, 1000), 999), append(steps(1, 1, 1000), 0),
	} {
		if Right(l) {
			t.Errorf("Right(%v): yes", l)
		}
	}
}

// TestRightAllP6_1: a row is a set, if each is less than all behind it.
func TestRightAllP6_1(t *testing.T) {
	many := 0
	for _, l := range rows(row(0, 5, 1<<31, greatest), 5) {
		right := true
		for i := range l {
			for j := range i {
				right = right && l[j] < l[i]
			}
		}
		if Right(l) != right {
			t.Errorf("Right(%v): %v", l, !right)
		}
		if right {
			many++
		}
	}
	if many != 16 {
		t.Errorf("%d sets of four", many)
	}
}

// TestMakeP6_1: the set of a row has its addresses, rising, once.
func TestMakeP6_1(t *testing.T) {
	for _, x := range []struct{ l, set []api.Addr }{
		{nil, nil},
		{row(), nil},
		{row(0), row(0)},
		{row(greatest), row(greatest)},
		{row(0, 0), row(0)},
		{row(7, 7, 7, 7, 7), row(7)},
		{row(3, 1, 2, 3, 1), row(1, 2, 3)},
		{row(1, 2, 3), row(1, 2, 3)},
		{row(3, 2, 1), row(1, 2, 3)},
		{row(2, 1, 2, 1, 2), row(1, 2)},
		{row(greatest, 0, greatest, 0), row(0, greatest)},
		{row(1<<31, 1<<31-1, 1), row(1, 1<<31-1, 1<<31)},
		{row(256, 1, 65536, 2, 16777216), row(1, 2, 256, 65536, 16777216)},
		{edges, edges},
	} {
		comes(t, "Make", Make(x.l), x.set)
	}
}

// TestMakeAllP6_1: Make holds for any row; the set of a set is that set.
func TestMakeAllP6_1(t *testing.T) {
	of := row(0, 5, 1<<31, greatest)
	for _, l := range rows(of, 6) {
		set := Make(l)
		comes(t, "Make", set, chosen(of, func(a api.Addr) bool { return has(l, a) }))
		comes(t, "Make of a set", Make(set), set)
		if !Right(set) {
			t.Errorf("Make(%v): %v is no set", l, set)
		}
	}
}

// TestMakeLongP6_1: a long row, with each address again and again, far from one another.
func TestMakeLongP6_1(t *testing.T) {
	want := steps(3, 1000003, 4001)
	var l []api.Addr
	for i := range 3 * len(want) {
		l = append(l, want[i*1009%len(want)])
	}
	comes(t, "Make of a long row", Make(l), want)
	slices.Reverse(l)
	comes(t, "Make of it backwards", Make(l), want)
	comes(t, "Make of one alone", Make(make([]api.Addr, 5000)), row(0))
}

// TestHasP6_1: all that is in a set is in it, nothing else.
func TestHasP6_1(t *testing.T) {
	for _, l := range subsets(edges) {
		for _, a := range append(row(3, 1<<30, greatest-2), edges...) {
			if Has(l, a) != has(l, a) {
				t.Errorf("Has(%v, %d): %v", l, a, !has(l, a))
			}
		}
	}
	if Has(nil, 0) || Has(row(), 0) || Has(nil, greatest) || Has(make([]api.Addr, 0, 4), 0) {
		t.Error("something is in none")
	}
	long := steps(1, 2, 1000)
	for a := range api.Addr(2002) {
		if Has(long, a) != (a%2 == 1 && a < 2000) {
			t.Errorf("%d: %v", a, Has(long, a))
		}
	}
}

// pairs are sets, and what they have in one, in both, in the first one alone, worked out by hand.
var pairs = []struct{ a, b, union, inter, minus []api.Addr }{
	{nil, nil, nil, nil, nil},
	{row(), nil, nil, nil, nil},
	{row(1), nil, row(1), nil, row(1)},
	{nil, row(1), row(1), nil, nil},
	{row(0), row(0), row(0), row(0), nil},
	{row(greatest), row(greatest), row(greatest), row(greatest), nil},
	{row(0), row(greatest), row(0, greatest), nil, row(0)},
	{row(greatest), row(0), row(0, greatest), nil, row(greatest)},
	{row(0, greatest), row(0), row(0, greatest), row(0), row(greatest)},
	{row(0, greatest), row(greatest), row(0, greatest), row(greatest), row(0)},
	{row(1, 2, 3), row(2, 4), row(1, 2, 3, 4), row(2), row(1, 3)},
	{row(2, 4), row(1, 2, 3), row(1, 2, 3, 4), row(2), row(4)},
	{row(1, 3, 5, 7), row(2, 3, 7, 9), row(1, 2, 3, 5, 7, 9), row(3, 7), row(1, 5)},
	{row(2, 3, 7, 9), row(1, 3, 5, 7), row(1, 2, 3, 5, 7, 9), row(3, 7), row(2, 9)},
	// nothing in common: one by one, one behind the other
	{row(1, 3, 5), row(2, 4, 6), row(1, 2, 3, 4, 5, 6), nil, row(1, 3, 5)},
	{row(1, 2, 3), row(4, 5, 6), row(1, 2, 3, 4, 5, 6), nil, row(1, 2, 3)},
	{row(4, 5, 6), row(1, 2, 3), row(1, 2, 3, 4, 5, 6), nil, row(4, 5, 6)},
	// all in common
	{row(1, 2, 3), row(1, 2, 3), row(1, 2, 3), row(1, 2, 3), nil},
	{edges, edges, edges, edges, nil},
	// one more at either end
	{row(1, 2, 3), row(2, 3), row(1, 2, 3), row(2, 3), row(1)},
	{row(2, 3), row(1, 2, 3), row(1, 2, 3), row(2, 3), nil},
	{row(1, 2, 3), row(1, 2), row(1, 2, 3), row(1, 2), row(3)},
	{row(1, 2), row(1, 2, 3), row(1, 2, 3), row(1, 2), nil},
	{row(1, 2, 3), row(0, 1, 2, 3, 4), row(0, 1, 2, 3, 4), row(1, 2, 3), nil},
	{row(0, 1, 2, 3, 4), row(1, 2, 3), row(0, 1, 2, 3, 4), row(1, 2, 3), row(0, 4)},
	{row(0, 1, 2), row(1, 2, 3), row(0, 1, 2, 3), row(1, 2), row(0)},
	// by their size without a sign
	{row(1, 1<<31), row(1<<31-1, greatest), row(1, 1<<31-1, 1<<31, greatest), nil, row(1, 1<<31)},
}

// TestUnionP6_1: what is in one or the other.
func TestUnionP6_1(t *testing.T) {
	for _, x := range pairs {
		comes(t, "Union", Union(x.a, x.b), x.union)
	}
	long := Union(steps(0, 2, 1000), steps(1, 2, 1000))
	comes(t, "Union of even and odd ones", long, steps(0, 1, 2000))
}

// TestInterP6_1: what is in both.
func TestInterP6_1(t *testing.T) {
	for _, x := range pairs {
		comes(t, "Inter", Inter(x.a, x.b), x.inter)
	}
	comes(t, "Inter of every second and third one", Inter(steps(0, 2, 1000), steps(0, 3, 1000)), steps(0, 6, 334))
}

// TestMinusP6_1: what is in the first one and not in the second one.
func TestMinusP6_1(t *testing.T) {
	for _, x := range pairs {
		comes(t, "Minus", Minus(x.a, x.b), x.minus)
	}
	comes(t, "Minus of all and every second one", Minus(steps(0, 1, 2000), steps(0, 2, 1000)), steps(1, 2, 1000))
}

// TestTwoSetsP6_1: of all pairs of sets, what is in either, in both, in the first one alone; all are sets.
func TestTwoSetsP6_1(t *testing.T) {
	all := subsets(edges)
	for _, a := range all {
		for _, b := range all {
			union, inter, minus := Union(a, b), Inter(a, b), Minus(a, b)
			comes(t, "Union", union, chosen(edges, func(x api.Addr) bool { return has(a, x) || has(b, x) }))
			comes(t, "Inter", inter, chosen(edges, func(x api.Addr) bool { return has(a, x) && has(b, x) }))
			comes(t, "Minus", minus, chosen(edges, func(x api.Addr) bool { return has(a, x) && !has(b, x) }))
			if !Right(union) || !Right(inter) || !Right(minus) {
				t.Errorf("%v and %v: no sets", a, b)
			}
		}
	}
}

// TestThroughP6_1: two sets are gone through as far as one wants, and again from their beginning.
func TestThroughP6_1(t *testing.T) {
	all := through(row(1, 2, 3), row(2, 4))
	want := []where{{a: true}, {a: true, b: true}, {a: true}, {b: true}}
	for most := 1; most <= 4; most++ {
		n := 0
		for x, in := range all {
			if x != api.Addr(n+1) || in != want[n] {
				t.Errorf("%d is %d %v", n, x, in)
			}
			n++
			if n == most {
				break
			}
		}
		if n != most {
			t.Errorf("%d of %d", n, most)
		}
	}
}

// TestSameP6_1: two rows are the same, if they have the same addresses at the same places.
func TestSameP6_1(t *testing.T) {
	for _, x := range []struct {
		a, b []api.Addr
		same bool
	}{
		{nil, nil, true},
		{nil, row(), true},
		{row(), make([]api.Addr, 0, 9), true},
		{row(1, 2), append(make([]api.Addr, 0, 9), 1, 2), true},
		{row(0, greatest), row(0, greatest), true},
		{row(2, 1, 1), row(2, 1, 1), true},
		{nil, row(0), false},
		{row(0), row(0, 0), false},
		{row(1, 1), row(1), false},
		{row(1, 2), row(2, 1), false},
		{row(1, 2), row(1, 2, 3), false},
		{row(1, 2), row(0, 1, 2), false},
		{row(1, 2, 3), row(1, 2, 4), false},
		{row(1, 2, 3), row(0, 2, 3), false},
		{row(1, 2, 3), row(1, 5, 3), false},
		{row(1), row(1 + 1<<31), false},
		{row(1), row(1 + 1<<16), false},
		{row(greatest), row(greatest - 1), false},
	} {
		if Same(x.a, x.b) != x.same || Same(x.b, x.a) != x.same {
			t.Errorf("Same(%v, %v): not %v", x.a, x.b, x.same)
		}
	}
	all := rows(row(0, 1, greatest), 4)
	for i, a := range all {
		for j, b := range all {
			if Same(a, slices.Clone(b)) != (i == j) {
				t.Errorf("Same(%v, %v): not %v", a, b, i == j)
			}
		}
	}
}

// together are filters, and what they want together, worked out by hand.
var together = []struct {
	l []api.Filter
	f api.Filter
}{
	{nil, in()},
	{[]api.Filter{}, in()},
	// one
	{[]api.Filter{in()}, in()},
	{[]api.Filter{ex()}, ex()},
	{[]api.Filter{in(0)}, in(0)},
	{[]api.Filter{ex(0)}, ex(0)},
	{[]api.Filter{in(1, 2, greatest)}, in(1, 2, greatest)},
	{[]api.Filter{ex(1, 2, greatest)}, ex(1, 2, greatest)},
	// without Except: those of all
	{[]api.Filter{in(), in()}, in()},
	{[]api.Filter{in(1), in()}, in(1)},
	{[]api.Filter{in(), in(1)}, in(1)},
	{[]api.Filter{in(1), in(2, 3)}, in(1, 2, 3)},
	{[]api.Filter{in(2, 3), in(1)}, in(1, 2, 3)},
	{[]api.Filter{in(1, 2), in(2, 3), in(3, 4)}, in(1, 2, 3, 4)},
	{[]api.Filter{in(1), in(1), in(1)}, in(1)},
	{[]api.Filter{in(greatest), in(0), in(1 << 31)}, in(0, 1<<31, greatest)},
	// with Except: those that all have
	{[]api.Filter{ex(), ex()}, ex()},
	{[]api.Filter{ex(1, 2), ex()}, ex()},
	{[]api.Filter{ex(), ex(1, 2)}, ex()},
	{[]api.Filter{ex(1, 2), ex(), ex(1, 2)}, ex()},
	{[]api.Filter{ex(1, 2), ex(1, 2)}, ex(1, 2)},
	{[]api.Filter{ex(1, 2, 3), ex(2, 3, 4)}, ex(2, 3)},
	{[]api.Filter{ex(1, 2, 3), ex(2, 3, 4), ex(3, 4, 5)}, ex(3)},
	{[]api.Filter{ex(1), ex(2)}, ex()},
	{[]api.Filter{ex(1, 2), ex(2, 3), ex(1, 3)}, ex()},
	// both: less those that any without has
	{[]api.Filter{ex(1, 2), in(2)}, ex(1)},
	{[]api.Filter{in(2), ex(1, 2)}, ex(1)},
	{[]api.Filter{in(2), ex(1, 2), in(5)}, ex(1)},
	{[]api.Filter{in(1), ex(1, 2), in(2)}, ex()},
	{[]api.Filter{ex(1, 2, 3, 4), in(1), in(4)}, ex(2, 3)},
	{[]api.Filter{ex(0, 1, greatest), in(0, greatest)}, ex(1)},
	{[]api.Filter{ex(1, 2), in()}, ex(1, 2)},
	{[]api.Filter{in(), ex(1, 2)}, ex(1, 2)},
	{[]api.Filter{in(1, 2), ex()}, ex()},
	{[]api.Filter{ex(), in(1, 2), ex(1, 2)}, ex()},
	{[]api.Filter{ex(1, 2), in(3, 4)}, ex(1, 2)},
	{[]api.Filter{ex(1, 2), in(1, 2)}, ex()},
	{[]api.Filter{ex(1, 2, 3, 4), in(4, 5), ex(2, 3, 4, 5), in(2), in()}, ex(3)},
}

// TestFilterP6_2: what filters want together.
func TestFilterP6_2(t *testing.T) {
	for _, x := range together {
		f := Filter(x.l)
		if f.Except != x.f.Except || !slices.Equal(f.Srcs, x.f.Srcs) {
			t.Errorf("Filter(%v): %v, not %v", x.l, f, x.f)
		}
	}
}

// TestFilterManyP6_2: what many filters want together, first those without Except, then those with it.
func TestFilterManyP6_2(t *testing.T) {
	var with, without []api.Filter
	for i := range 300 {
		a := api.Addr(i)
		with = append(with, ex(steps(a, 1, 400)...))
		without = append(without, in(a, 1000-a))
	}
	for _, x := range []struct {
		l []api.Filter
		f api.Filter
	}{
		{without, in(append(steps(0, 1, 300), steps(701, 1, 300)...)...)},
		{with, ex(steps(299, 1, 101)...)},
		{slices.Concat(with, without), ex(steps(300, 1, 100)...)},
		{slices.Concat(without, with), ex(steps(300, 1, 100)...)},
		{slices.Concat(without, with, []api.Filter{ex()}), ex()},
	} {
		f := Filter(x.l)
		if f.Except != x.f.Except || !slices.Equal(f.Srcs, x.f.Srcs) {
			t.Errorf("Filter of %d: %v, not %v", len(x.l), f, x.f)
		}
	}
}

// TestWantsP6_2: a filter wants its Srcs, or, with Except, all others.
func TestWantsP6_2(t *testing.T) {
	for _, x := range []struct {
		f     api.Filter
		a     api.Addr
		wants bool
	}{
		{in(), 0, false}, {in(), greatest, false}, {ex(), 0, true}, {ex(), greatest, true},
		{in(1), 1, true}, {in(1), 2, false}, {in(1), 0, false},
		{ex(1), 1, false}, {ex(1), 2, true}, {ex(1), 0, true},
		{in(0, greatest), 0, true}, {in(0, greatest), greatest, true}, {in(0, greatest), 1, false},
		{ex(0, greatest), 0, false}, {ex(0, greatest), greatest, false}, {ex(0, greatest), 1, true},
		{in(1, 3, 5), 3, true}, {in(1, 3, 5), 4, false}, {ex(1, 3, 5), 5, false}, {ex(1, 3, 5), 6, true},
	} {
		if Wants(x.f, x.a) != x.wants {
			t.Errorf("Wants(%v, %d): not %v", x.f, x.a, x.wants)
		}
	}
	for _, l := range subsets(edges) {
		for _, a := range append(row(3, greatest-2), edges...) {
			if Wants(in(l...), a) != has(l, a) || Wants(ex(l...), a) == has(l, a) {
				t.Errorf("of %v, %d is wanted otherwise", l, a)
			}
		}
	}
}

// holdsTogether holds what filters want together against what each of them wants; what comes out has Except if one has, and its Srcs are a set.
func holdsTogether(t *testing.T, of []api.Addr, l ...api.Filter) {
	t.Helper()
	f := Filter(l)
	except := false
	for _, one := range l {
		except = except || one.Except
	}
	if f.Except != except || !Right(f.Srcs) {
		t.Errorf("Filter(%v): %v", l, f)
	}
	for _, a := range of {
		one := false
		for _, x := range l {
			one = one || wants(x, a)
		}
		if wants(f, a) != one || Wants(f, a) != one {
			t.Errorf("Filter(%v): %v; of %d not %v", l, f, a, one)
		}
	}
}

// filters are all filters of some addresses.
func filters(of []api.Addr) []api.Filter {
	var l []api.Filter
	for _, set := range subsets(of) {
		l = append(l, in(set...), ex(set...))
	}
	return l
}

// TestFilterP6_3: what all together want is what one of them wants.
func TestFilterP6_3(t *testing.T) {
	of := row(0, 5, 1<<31, greatest)
	asked := append(row(4, 6), of...)
	holdsTogether(t, asked)
	all := filters(of)
	for _, a := range all {
		holdsTogether(t, asked, a)
		for _, b := range all {
			holdsTogether(t, asked, a, b)
			for _, c := range all {
				holdsTogether(t, asked, a, b, c)
			}
		}
	}
}

// TestFilterManyP6_3: so of many, of more addresses.
func TestFilterManyP6_3(t *testing.T) {
	all := filters(edges)
	seed := uint32(1)
	for range 3000 {
		var l []api.Filter
		for n := seed >> 8 % 12; n > 0; n-- {
			seed = seed*1664525 + 1013904223
			l = append(l, all[seed>>8%uint32(len(all))])
		}
		seed = seed*1664525 + 1013904223
		holdsTogether(t, append(row(3, greatest-2), edges...), l...)
	}
}

// answers are what the calls that answer lists do of a, b and filters of these.
func answers(a, b []api.Addr) [][]api.Addr {
	return [][]api.Addr{
		Make(a), Make(b), Union(a, b), Union(b, a), Union(a, nil), Union(nil, a), Inter(a, b), Inter(a, a), Minus(a, b), Minus(a, nil), Minus(b, a),
		Filter([]api.Filter{in(a...)}).Srcs,
		Filter([]api.Filter{ex(a...)}).Srcs,
		Filter([]api.Filter{in(a...), in()}).Srcs,
		Filter([]api.Filter{in(), ex(a...)}).Srcs,
		Filter([]api.Filter{in(a...), in(b...)}).Srcs,
		Filter([]api.Filter{ex(a...), ex(b...)}).Srcs,
		Filter([]api.Filter{ex(a...), ex(a...)}).Srcs,
		Filter([]api.Filter{ex(a...), in(b...)}).Srcs,
		Filter([]api.Filter{in(b...), ex(a...), in(a...)}).Srcs,
	}
}

// TestApart: what is handed in stays as it is, and so does what stands behind it; what comes out is nobody else's; the same is answered again (R3, R4).
func TestApart(t *testing.T) {
	for _, room := range [][]api.Addr{
		{1, 2, 3, 2, 3, 4, 9, 9, 9},
		{1, 1, 1, 1, 1, 1, 9, 9, 9},
		{3, 2, 1, 1, 3, 2, 9, 9, 9},
		{1, 2, 3, 4, 5, 6, 9, 9, 9},
		{4, 5, 6, 1, 2, 3, 9, 9, 9},
	} {
		kept := slices.Clone(room)
		a, b := room[:3], room[3:6]
		first, again := answers(a, b), answers(a, b)
		comes(t, "what is handed in", room, kept)
		for i, l := range first {
			comes(t, "the same again", again[i], l)
			for j := range cap(l) {
				l[:cap(l)][j] = 77
			}
		}
		comes(t, "what is handed in, with answers written into", room, kept)
		third := answers(a, b)
		for i, l := range third {
			comes(t, "an answer, with others written into", l, again[i])
		}
		clear(room)
		for i, l := range third {
			comes(t, "an answer, with what was handed in written into", l, again[i])
		}
	}
}

// TestAsked: what is only asked about stays as it is, and is answered the same again (R3, R4).
func TestAsked(t *testing.T) {
	for _, l := range rows(row(0, 5, greatest), 4) {
		kept := slices.Clone(l)
		right, holds, same, wanted := Right(l), Has(l, 5), Same(l, kept), Wants(ex(l...), 5)
		if Right(l) != right || Has(l, 5) != holds || Same(l, kept) != same || Wants(ex(l...), 5) != wanted {
			t.Errorf("%v: other answers", l)
		}
		comes(t, "what is asked about", l, kept)
	}
}

// TestFiltersStay: the filters that are handed in stay as they are (R3).
func TestFiltersStay(t *testing.T) {
	for _, x := range together {
		kept := slices.Clone(x.l)
		for i, f := range x.l {
			kept[i].Srcs = slices.Clone(f.Srcs)
		}
		Filter(x.l)
		for i, f := range x.l {
			if f.Except != kept[i].Except {
				t.Errorf("%v became %v", kept, x.l)
			}
			comes(t, "Srcs of a filter", f.Srcs, kept[i].Srcs)
		}
	}
}

// TestNoSets: of rows that are no sets every call ends, too (R1).
func TestNoSets(t *testing.T) {
	all := rows(row(0, 5, greatest), 4)
	for _, a := range all {
		for _, b := range all {
			answers(a, b)
			Has(a, 5)
			Wants(in(a...), 5)
		}
	}
}
