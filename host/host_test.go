package host

import (
	"fmt"
	"math"
	"slices"
	"testing"

	"stolon/api"
)

// Groups: at either end of those that are asked about, and between.
const (
	least api.Addr = 3758096640 // 224.0.1.0
	group api.Addr = 4009820675 // 239.1.2.3
	next  api.Addr = 4009820676 // 239.1.2.4
	most  api.Addr = 4026531839 // 239.255.255.255
)

// greatest is the greatest address.
const greatest api.Addr = 1<<32 - 1

// in is a filter without Except.
func in(l ...api.Addr) api.Filter { return api.Filter{Srcs: l} }

// ex is a filter with Except.
func ex(l ...api.Addr) api.Filter { return api.Filter{Except: true, Srcs: l} }

// sock is a socket.
func sock(id int, g api.Addr, f api.Filter) api.Socket {
	return api.Socket{Id: id, Group: g, Filter: f}
}

// host is a host of sockets.
func host(l ...api.Socket) api.Host { return api.Host{L: l} }

// rec is a record.
func rec(kind byte, g api.Addr, l ...api.Addr) api.Record {
	return api.Record{Type: kind, Group: g, Srcs: l}
}

// recs are records.
func recs(l ...api.Record) []api.Record { return l }

// query is a question about a group, and sources.
func query(g api.Addr, l ...api.Addr) api.Igmp {
	return api.Igmp{Kind: api.Query, Version: 3, Group: g, Srcs: l}
}

// srcs are n addresses from a first one on.
func srcs(first api.Addr, n int) []api.Addr {
	var l []api.Addr
	for i := range n {
		l = append(l, first+api.Addr(i))
	}
	return l
}

// many is a host with n sockets, of Ids 10, 20 and so on, each of a source of its own.
func many(n int) api.Host {
	var h api.Host
	for i := range n {
		h.L = append(h.L, sock(10*i+10, group, in(api.Addr(i+1))))
	}
	return h
}

// own is a host of the same sockets in memory of its own.
func own(h api.Host) api.Host {
	l := slices.Clone(h.L)
	for i := range l {
		l[i].Filter.Srcs = slices.Clone(l[i].Filter.Srcs)
	}
	return api.Host{L: l}
}

// comes holds an answer against what it should be, by their texts (in which a list without elements is the same, nil or not).
func comes(t *testing.T, what string, got, want any) {
	t.Helper()
	if g, w := fmt.Sprint(got), fmt.Sprint(want); g != w {
		t.Errorf("%s: %s, not %s", what, g, w)
	}
}

// wants tells whether a filter wants an address.
func wants(f api.Filter, a api.Addr) bool { return slices.Contains(f.Srcs, a) != f.Except }

// those are the ones of a rising row that are so.
func those(l []api.Addr, so func(api.Addr) bool) []api.Addr {
	var r []api.Addr
	for _, a := range l {
		if so(a) {
			r = append(r, a)
		}
	}
	return r
}

// filters are all filters of some addresses that rise.
func filters(of []api.Addr) []api.Filter {
	var l []api.Filter
	for bits := range 1 << len(of) {
		var s []api.Addr
		for i, a := range of {
			if bits>>i&1 == 1 {
				s = append(s, a)
			}
		}
		l = append(l, in(s...), ex(s...))
	}
	return l
}

// together is what sockets want of a group, by a look at each of the addresses of which their filters are.
func together(h api.Host, g api.Addr, of []api.Addr) api.Filter {
	var f api.Filter
	for _, s := range h.L {
		f.Except = f.Except || s.Group == g && s.Filter.Except
	}
	f.Srcs = those(of, func(a api.Addr) bool {
		wanted := false
		for _, s := range h.L {
			wanted = wanted || s.Group == g && wants(s.Filter, a)
		}
		return wanted != f.Except
	})
	return f
}

// TestRightP7_1: a host is right, if it has at most 32 sockets, all right, their Ids rising.
func TestRightP7_1(t *testing.T) {
	for _, h := range []api.Host{
		{},
		host(),
		host(sock(1, group, in())),
		host(sock(1, group, ex())),
		host(sock(math.MaxInt, group, ex(1))),
		host(sock(7, least, in(5))),
		host(sock(7, most, in(5))),
		host(sock(7, group, in(0, greatest))),
		host(sock(7, group, ex(1<<31-1, 1<<31))),
		host(sock(7, group, in(srcs(1, 16)...))),
		host(sock(7, group, ex(srcs(greatest-15, 16)...))),
		host(sock(1, group, in(1)), sock(2, group, in(1))),
		host(sock(1, next, in(2)), sock(5, group, ex(1)), sock(math.MaxInt, next, in())),
		many(31),
		many(32),
	} {
		if !Right(h) {
			t.Errorf("%v isn't right", h)
		}
	}
}

// wrong are sockets that aren't right.
var wrong = []api.Socket{
	{},
	sock(0, group, in(1)),
	sock(-1, group, in(1)),
	sock(math.MinInt, group, in(1)),
	sock(15, 0, in(1)),
	sock(15, 9, in(1)),
	sock(15, 3758096383, in(1)), // 223.255.255.255
	sock(15, 3758096384, in(1)), // 224.0.0.0
	sock(15, 3758096406, in(1)), // 224.0.0.22
	sock(15, least-1, in(1)),
	sock(15, most+1, in(1)),
	sock(15, greatest, in(1)),
	sock(15, group, in(2, 1)),
	sock(15, group, ex(2, 1)),
	sock(15, group, in(1, 1)),
	sock(15, group, ex(0, 0)),
	sock(15, group, in(1, 3, 2)),
	sock(15, group, ex(1, 2, 2)),
	sock(15, group, in(1<<31, 1)),
	sock(15, group, in(srcs(1, 17)...)),
	sock(15, group, ex(srcs(1, 17)...)),
	sock(15, group, ex(srcs(1, 100)...)),
}

// TestNotRightP7_1: no other host is right, wherever what is wrong stands.
func TestNotRightP7_1(t *testing.T) {
	lists := [][]api.Socket{
		{sock(1, group, in()), sock(1, group, in())},
		{sock(2, group, in()), sock(1, group, in())},
		{sock(1, group, in()), sock(1, next, ex(1))},
		{sock(1, group, in()), sock(2, group, in()), sock(2, group, in())},
		{sock(1, group, in()), sock(3, group, in()), sock(2, group, in())},
		{sock(2, group, in()), sock(1, group, in()), sock(3, group, in())},
		{sock(math.MaxInt, group, in()), sock(1, group, in())},
		many(33).L,
		many(300).L,
	}
	for _, s := range wrong {
		lists = append(lists, []api.Socket{s}, []api.Socket{s, sock(16, group, in())}, []api.Socket{sock(14, group, in()), s})
		lists = append(lists, []api.Socket{sock(14, group, in()), s, sock(16, group, in())})
	}
	for _, l := range lists {
		if Right(host(l...)) {
			t.Errorf("%v is right", l)
		}
	}
}

// unlike are hosts of which no two are the same; many of them aren't right.
var unlike = []api.Host{
	{},
	host(api.Socket{}),
	host(api.Socket{}, api.Socket{}),
	host(sock(1, group, in())),
	host(sock(2, group, in())),
	host(sock(-1, group, in())),
	host(sock(1+1<<32, group, in())),
	host(sock(1, next, in())),
	host(sock(1, 0, in())),
	host(sock(1, group, ex())),
	host(sock(1, group, in(1))),
	host(sock(1, group, ex(1))),
	host(sock(1, group, in(2))),
	host(sock(1, group, in(1, 2))),
	host(sock(1, group, in(2, 1))),
	host(sock(1, group, in(1, 1))),
	host(sock(1, group, in(1, 2, 3))),
	host(sock(1, group, in(srcs(1, 17)...))),
	host(sock(1, group, in(srcs(1, 18)...))),
	host(sock(1, group, in()), sock(2, group, in())),
	host(sock(2, group, in()), sock(1, group, in())),
	host(sock(1, group, in()), sock(1, group, in())),
	host(sock(1, group, in()), sock(2, next, in())),
	host(sock(1, group, in()), sock(2, group, ex())),
	host(sock(1, group, in()), sock(2, group, in(7))),
	host(sock(1, group, in(7)), sock(2, group, in())),
	host(sock(1, group, in()), sock(2, group, in()), sock(3, group, in())),
	many(32),
	many(33),
}

// TestSameP7_1: hosts are the same, if all their sockets are, at the same places.
func TestSameP7_1(t *testing.T) {
	for i, a := range unlike {
		for j, b := range unlike {
			if Same(a, own(b)) != (i == j) {
				t.Errorf("Same(%v, %v): not %v", a, b, i == j)
			}
		}
	}
	none := host(make([]api.Socket, 0, 3)...)
	if !Same(api.Host{}, none) || !Same(none, api.Host{}) {
		t.Error("two hosts without sockets aren't the same")
	}
	a, b := host(sock(1, group, api.Filter{})), host(sock(1, group, in(make([]api.Addr, 0, 3)...)))
	if !Same(a, b) || !Same(b, a) {
		t.Error("two filters without Srcs aren't the same")
	}
}

// mixed is a host with sockets of several groups: of the first two it wants something, of next all, of the last one nothing.
var mixed = host(
	sock(2, most, in(5, 6)),
	sock(3, group, ex(1, 2, 3)),
	sock(5, least, in()),
	sock(8, next, ex()),
	sock(9, group, in(2, 9)),
	sock(11, most, in(4, 6, 8)),
	sock(12, group, ex(1, 2, 3, 4)),
	sock(math.MaxInt, least, in()),
)

// TestWantsP7_1: what its sockets of a group want together.
func TestWantsP7_1(t *testing.T) {
	for _, x := range []struct {
		h api.Host
		g api.Addr
		f api.Filter
	}{
		{api.Host{}, group, in()},
		{api.Host{}, 0, in()},
		{host(sock(1, group, in(1))), group, in(1)},
		{host(sock(1, group, ex(1))), group, ex(1)},
		{host(sock(1, group, ex())), group, ex()},
		{host(sock(1, group, in())), group, in()},
		{host(sock(1, group, ex(1))), next, in()},
		{host(sock(1, group, in(1, 4)), sock(2, group, in(0, 4, greatest))), group, in(0, 1, 4, greatest)},
		{host(sock(1, group, ex(1, 4)), sock(2, group, ex(0, 4, greatest))), group, ex(4)},
		{host(sock(1, group, ex(1, 4)), sock(2, group, in(4))), group, ex(1)},
		{host(sock(1, group, in(4)), sock(2, group, ex(1, 4))), group, ex(1)},
		{host(sock(1, group, in(1)), sock(2, next, in(2)), sock(3, group, in(3))), group, in(1, 3)},
		{mixed, least, in()},
		{mixed, group, ex(1, 3)},
		{mixed, next, ex()},
		{mixed, most, in(4, 5, 6, 8)},
		{mixed, group - 1, in()},
		{mixed, 0, in()},
		{mixed, greatest, in()},
		{many(32), group, in(srcs(1, 32)...)},
	} {
		comes(t, fmt.Sprint("Wants of ", x.h, x.g), Wants(x.h, x.g), x.f)
	}
}

// TestWantsAllP7_1: so of all sockets of three filters, the last one of this or of another group.
func TestWantsAllP7_1(t *testing.T) {
	of := []api.Addr{0, 7, greatest}
	all := filters(of)
	for _, a := range all {
		for _, b := range all {
			for _, c := range all {
				for _, g := range []api.Addr{group, next} {
					h := host(sock(1, group, a), sock(4, group, b), sock(9, g, c))
					comes(t, fmt.Sprint("Wants of ", h), Wants(h, group), together(h, group, of))
				}
			}
		}
	}
}

// TestWantsManyP7_1: it wants more sources than a socket has: those of 32 sockets.
func TestWantsManyP7_1(t *testing.T) {
	var with, without api.Host
	for i := range 32 {
		without.L = append(without.L, sock(i+1, group, in(srcs(api.Addr(1000-16*i), 16)...)))
		with.L = append(with.L, sock(i+1, group, ex(srcs(api.Addr(100+i/4), 16)...)))
	}
	comes(t, "Wants without Except", Wants(without, group), in(srcs(504, 512)...))
	comes(t, "Wants with Except", Wants(with, group), ex(srcs(107, 9)...))
	if !Right(without) || !Right(with) {
		t.Error("these hosts aren't right")
	}
}

// TestGroupsP7_1: the groups of which it wants anything, rising, each once.
func TestGroupsP7_1(t *testing.T) {
	for _, x := range []struct {
		h api.Host
		l []api.Addr
	}{
		{api.Host{}, nil},
		{host(sock(1, group, in())), nil},
		{host(sock(1, group, in()), sock(2, group, in())), nil},
		{host(sock(1, group, ex())), []api.Addr{group}},
		{host(sock(1, group, in(0))), []api.Addr{group}},
		{host(sock(1, group, in()), sock(2, group, in(1))), []api.Addr{group}},
		{host(sock(1, group, ex()), sock(2, group, in())), []api.Addr{group}},
		{host(sock(1, group, ex(1)), sock(2, group, in(1))), []api.Addr{group}},
		{host(sock(1, most, ex()), sock(2, least, in(1)), sock(3, next, in()), sock(4, group, ex(1))), []api.Addr{least, group, most}},
		{host(sock(1, group, ex()), sock(2, next, in(1)), sock(3, group, in(1)), sock(4, next, ex())), []api.Addr{group, next}},
		{mixed, []api.Addr{group, next, most}},
		{many(32), []api.Addr{group}},
	} {
		comes(t, fmt.Sprint("Groups of ", x.h), Groups(x.h), x.l)
	}
}

// TestChangeP7_2: what is said of a change, in each of the four rows.
func TestChangeP7_2(t *testing.T) {
	const g = group
	for _, x := range []struct {
		was, is api.Filter
		l       []api.Record
	}{
		// without Except
		{in(), in(), nil},
		{in(1), in(1), nil},
		{in(), in(1, 2), recs(rec(api.Allow, g, 1, 2))},
		{in(1, 2), in(), recs(rec(api.Block, g, 1, 2))},
		{in(1), in(1, 2), recs(rec(api.Allow, g, 2))},
		{in(1, 2), in(1), recs(rec(api.Block, g, 2))},
		{in(1, 2), in(2, 3), recs(rec(api.Allow, g, 3), rec(api.Block, g, 1))},
		{in(0), in(greatest), recs(rec(api.Allow, g, greatest), rec(api.Block, g, 0))},
		{in(1, 3, 5, 7), in(2, 3, 4, 7, 9), recs(rec(api.Allow, g, 2, 4, 9), rec(api.Block, g, 1, 5))},
		// with Except
		{ex(), ex(), nil},
		{ex(1), ex(1), nil},
		{ex(), ex(1, 2), recs(rec(api.Block, g, 1, 2))},
		{ex(1, 2), ex(), recs(rec(api.Allow, g, 1, 2))},
		{ex(1), ex(1, 2), recs(rec(api.Block, g, 2))},
		{ex(1, 2), ex(1), recs(rec(api.Allow, g, 2))},
		{ex(1, 2), ex(2, 3), recs(rec(api.Allow, g, 1), rec(api.Block, g, 3))},
		{ex(0), ex(greatest), recs(rec(api.Allow, g, 0), rec(api.Block, g, greatest))},
		{ex(1, 3, 5, 7), ex(2, 3, 4, 7, 9), recs(rec(api.Allow, g, 1, 5), rec(api.Block, g, 2, 4, 9))},
		// without, then with
		{in(), ex(), recs(rec(api.ToEx, g))},
		{in(1), ex(), recs(rec(api.ToEx, g))},
		{in(), ex(1), recs(rec(api.ToEx, g, 1))},
		{in(1, 2), ex(1, 2), recs(rec(api.ToEx, g, 1, 2))},
		{in(1, 2), ex(2, 3), recs(rec(api.ToEx, g, 2, 3))},
		// with, then without
		{ex(), in(), recs(rec(api.ToIn, g))},
		{ex(1), in(), recs(rec(api.ToIn, g))},
		{ex(), in(1), recs(rec(api.ToIn, g, 1))},
		{ex(1, 2), in(1, 2), recs(rec(api.ToIn, g, 1, 2))},
		{ex(1, 2), in(2, 3), recs(rec(api.ToIn, g, 2, 3))},
	} {
		comes(t, fmt.Sprint("Change of ", x.was, " to ", x.is), Change(g, x.was, x.is), x.l)
	}
}

// TestChangeGroupP7_2: the records are of the group that is told, whichever that is.
func TestChangeGroupP7_2(t *testing.T) {
	for _, g := range []api.Addr{0, 1, least, next, most, greatest} {
		comes(t, "Change", Change(g, in(1), in(2)), recs(rec(api.Allow, g, 2), rec(api.Block, g, 1)))
		comes(t, "Change", Change(g, ex(1), ex(2)), recs(rec(api.Allow, g, 1), rec(api.Block, g, 2)))
		comes(t, "Change", Change(g, in(1), ex(2)), recs(rec(api.ToEx, g, 2)))
		comes(t, "Change", Change(g, ex(1), in(2)), recs(rec(api.ToIn, g, 2)))
	}
}

// TestChangeManyP7_2: filters of more sources than a socket has.
func TestChangeManyP7_2(t *testing.T) {
	a, b := srcs(1, 500), srcs(251, 512)
	allow, block := rec(api.Allow, group, srcs(501, 262)...), rec(api.Block, group, srcs(1, 250)...)
	comes(t, "Change without Except", Change(group, in(a...), in(b...)), recs(allow, block))
	allow.Srcs, block.Srcs = block.Srcs, allow.Srcs
	comes(t, "Change with Except", Change(group, ex(a...), ex(b...)), recs(allow, block))
	comes(t, "Change to Except", Change(group, in(a...), ex(b...)), recs(rec(api.ToEx, group, b...)))
	comes(t, "Change from Except", Change(group, ex(a...), in(b...)), recs(rec(api.ToIn, group, b...)))
}

// heard is a filter, as one knows it who hears records of it.
func heard(f api.Filter, l []api.Record, of []api.Addr) api.Filter {
	for _, r := range l {
		old := f
		switch r.Type {
		case api.ToIn, api.IsIn:
			f = in(r.Srcs...)
		case api.ToEx, api.IsEx:
			f = ex(r.Srcs...)
		case api.Allow, api.Block:
			f.Srcs = those(of, func(a api.Addr) bool {
				wanted := wants(old, a)
				if slices.Contains(r.Srcs, a) {
					wanted = r.Type == api.Allow
				}
				return wanted != f.Except
			})
		}
	}
	return f
}

// news is what is said of a change, by a look at each address.
func news(was, is api.Filter, of []api.Addr) []api.Record {
	switch {
	case is.Except && !was.Except:
		return recs(rec(api.ToEx, group, is.Srcs...))
	case was.Except && !is.Except:
		return recs(rec(api.ToIn, group, is.Srcs...))
	}
	var l []api.Record
	if come := those(of, func(a api.Addr) bool { return wants(is, a) && !wants(was, a) }); len(come) > 0 {
		l = append(l, rec(api.Allow, group, come...))
	}
	if gone := those(of, func(a api.Addr) bool { return wants(was, a) && !wants(is, a) }); len(gone) > 0 {
		l = append(l, rec(api.Block, group, gone...))
	}
	return l
}

// TestChangeAllP7_2: so of all pairs of filters; who hears it knows what is wanted then.
func TestChangeAllP7_2(t *testing.T) {
	of := []api.Addr{0, 5, 1 << 31, greatest}
	for _, was := range filters(of) {
		for _, is := range filters(of) {
			l := Change(group, was, is)
			comes(t, fmt.Sprint("Change of ", was, " to ", is), l, news(was, is, of))
			comes(t, fmt.Sprint("heard of ", was, " to ", is), heard(was, l, of), is)
		}
	}
}

// three is a host with room at either end, and between.
var three = host(sock(3, group, in(1, 2)), sock(6, next, ex(4)), sock(9, group, in(2, 3)))

// TestPutP7_3: a socket is put in place of the one of its Id, or behind those of lesser ones; and what is said of that.
func TestPutP7_3(t *testing.T) {
	a, b, c := three.L[0], three.L[1], three.L[2]
	for _, x := range []struct {
		h  api.Host
		s  api.Socket
		is api.Host
		l  []api.Record
	}{
		{api.Host{}, sock(1, group, ex()), host(sock(1, group, ex())), recs(rec(api.ToEx, group))},
		{api.Host{}, sock(1, group, in()), host(sock(1, group, in())), nil},
		{api.Host{}, sock(math.MaxInt, least, in(0)), host(sock(math.MaxInt, least, in(0))), recs(rec(api.Allow, least, 0))},
		{api.Host{}, sock(1, most, ex(5)), host(sock(1, most, ex(5))), recs(rec(api.ToEx, most, 5))},
		// a new Id: at either end, and between
		{three, sock(1, group, in(2, 7)), host(sock(1, group, in(2, 7)), a, b, c), recs(rec(api.Allow, group, 7))},
		{three, sock(2, group, in(1)), host(sock(2, group, in(1)), a, b, c), nil},
		{three, sock(4, next, in(4, 5)), host(a, sock(4, next, in(4, 5)), b, c), recs(rec(api.Allow, next, 4))},
		{three, sock(5, group, ex(1, 8)), host(a, sock(5, group, ex(1, 8)), b, c), recs(rec(api.ToEx, group, 8))},
		{three, sock(7, next, ex(5)), host(a, b, sock(7, next, ex(5)), c), recs(rec(api.Allow, next, 4))},
		{three, sock(8, most, in(1)), host(a, b, sock(8, most, in(1)), c), recs(rec(api.Allow, most, 1))},
		{three, sock(10, next, in()), host(a, b, c, sock(10, next, in())), nil},
		{three, sock(math.MaxInt, group, ex()), host(a, b, c, sock(math.MaxInt, group, ex())), recs(rec(api.ToEx, group))},
		// one that is there: the same filter, and another one
		{three, own(three).L[0], three, nil},
		{three, own(three).L[1], three, nil},
		{three, own(three).L[2], three, nil},
		{three, sock(3, group, in(1)), host(sock(3, group, in(1)), b, c), nil},
		{three, sock(3, group, in()), host(sock(3, group, in()), b, c), recs(rec(api.Block, group, 1))},
		{three, sock(3, group, in(4)), host(sock(3, group, in(4)), b, c), recs(rec(api.Allow, group, 4), rec(api.Block, group, 1))},
		{three, sock(6, next, ex(5)), host(a, sock(6, next, ex(5)), c), recs(rec(api.Allow, next, 4), rec(api.Block, next, 5))},
		{three, sock(6, next, ex()), host(a, sock(6, next, ex()), c), recs(rec(api.Allow, next, 4))},
		{three, sock(6, next, in()), host(a, sock(6, next, in()), c), recs(rec(api.ToIn, next))},
		{three, sock(6, next, in(3)), host(a, sock(6, next, in(3)), c), recs(rec(api.ToIn, next, 3))},
		{three, sock(9, group, in(1)), host(a, b, sock(9, group, in(1))), recs(rec(api.Block, group, 3))},
		{three, sock(9, group, ex(2, 3)), host(a, b, sock(9, group, ex(2, 3))), recs(rec(api.ToEx, group, 3))},
		{three, sock(9, group, in(srcs(11, 16)...)), host(a, b, sock(9, group, in(srcs(11, 16)...))), recs(rec(api.Allow, group, srcs(11, 16)...), rec(api.Block, group, 3))},
	} {
		h, l, e := Put(x.h, x.s)
		what := fmt.Sprint("Put of ", x.h, x.s)
		comes(t, what, h, x.is)
		comes(t, what, l, x.l)
		comes(t, what, e, api.OK)
	}
}

// TestPutFullP7_3: where there are 31 sockets there is room for one more; where there are 32, for those alone that are there.
func TestPutFullP7_3(t *testing.T) {
	for _, id := range []int{1, 15, 305, 311, math.MaxInt} {
		h, l, e := Put(many(31), sock(id, group, in(77)))
		if e != api.OK || len(h.L) != 32 || !Right(h) {
			t.Errorf("the last one, %d: %v %d", id, h, e)
		}
		comes(t, "Put of the last one", l, recs(rec(api.Allow, group, 77)))
		h, l, e = Put(many(32), sock(id, group, in(77)))
		comes(t, "Put of one more", h, many(32))
		comes(t, "Put of one more", l, recs())
		comes(t, "Put of one more", e, api.ErrFull)
	}
	for i := range 32 {
		is := many(32)
		is.L[i].Filter = in(77)
		h, l, e := Put(many(32), sock(10*i+10, group, in(77)))
		comes(t, "Put of one that is there", h, is)
		comes(t, "Put of one that is there", l, recs(rec(api.Allow, group, 77), rec(api.Block, group, api.Addr(i+1))))
		comes(t, "Put of one that is there", e, api.OK)
	}
	comes(t, "Put of one more of another group", third(Put(many(32), sock(15, next, ex()))), api.ErrFull)
}

// third is the last of three results.
func third(_ api.Host, _ []api.Record, e api.Errno) api.Errno { return e }

// TestPutWrongP7_3: no socket is put that isn't right, or of whose Id there is one of another group; whether or not there is room.
func TestPutWrongP7_3(t *testing.T) {
	refused := func(h api.Host, s api.Socket) {
		t.Helper()
		is, l, e := Put(own(h), s)
		what := fmt.Sprint("Put of ", h, s)
		comes(t, what, is, h)
		comes(t, what, l, recs())
		comes(t, what, e, api.ErrArg)
	}
	for _, h := range []api.Host{{}, three, many(31), many(32)} {
		for _, s := range wrong {
			refused(h, s)
			if len(h.L) > 0 && s.Id > 0 {
				s.Id = h.L[0].Id
				refused(h, s)
				s.Id = h.L[len(h.L)-1].Id
				refused(h, s)
			}
		}
		for _, s := range h.L {
			for _, g := range []api.Addr{least, s.Group - 1, s.Group + 1, most} {
				refused(h, sock(s.Id, g, s.Filter))
				refused(h, sock(s.Id, g, in()))
				refused(h, sock(s.Id, g, ex()))
			}
		}
	}
}

// TestDropP7_3: without that socket, and what is said of that.
func TestDropP7_3(t *testing.T) {
	a, b, c := three.L[0], three.L[1], three.L[2]
	more := host(sock(1, group, ex(1, 2)), sock(2, group, in(3)), sock(3, group, ex(2, 5)), sock(4, next, in()))
	for _, x := range []struct {
		h  api.Host
		id int
		is api.Host
		l  []api.Record
	}{
		{host(sock(1, group, ex(1))), 1, api.Host{}, recs(rec(api.ToIn, group))},
		{host(sock(1, group, ex())), 1, api.Host{}, recs(rec(api.ToIn, group))},
		{host(sock(1, group, in(1, 2))), 1, api.Host{}, recs(rec(api.Block, group, 1, 2))},
		{host(sock(1, group, in())), 1, api.Host{}, nil},
		{host(sock(math.MaxInt, most, in(0))), math.MaxInt, api.Host{}, recs(rec(api.Block, most, 0))},
		{three, 3, host(b, c), recs(rec(api.Block, group, 1))},
		{three, 6, host(a, c), recs(rec(api.ToIn, next))},
		{three, 9, host(a, b), recs(rec(api.Block, group, 3))},
		{more, 1, host(more.L[1:]...), recs(rec(api.Block, group, 5))},
		{more, 2, host(more.L[0], more.L[2], more.L[3]), nil},
		{more, 3, host(more.L[0], more.L[1], more.L[3]), recs(rec(api.Block, group, 1))},
		{more, 4, host(more.L[:3]...), nil},
		{host(sock(1, group, ex()), sock(2, group, ex(7))), 1, host(sock(2, group, ex(7))), recs(rec(api.Block, group, 7))},
		{host(sock(1, group, ex()), sock(2, group, in(7))), 1, host(sock(2, group, in(7))), recs(rec(api.ToIn, group, 7))},
		{host(sock(1, group, ex(7)), sock(2, group, in(7))), 2, host(sock(1, group, ex(7))), recs(rec(api.Block, group, 7))},
		{many(32), 10, host(many(32).L[1:]...), recs(rec(api.Block, group, 1))},
		{many(32), 320, many(31), recs(rec(api.Block, group, 32))},
	} {
		h, l, e := Drop(x.h, x.id)
		what := fmt.Sprint("Drop of ", x.h, x.id)
		comes(t, what, h, x.is)
		comes(t, what, l, x.l)
		comes(t, what, e, api.OK)
	}
}

// TestDropNoneP7_3: what isn't there can't be dropped.
func TestDropNoneP7_3(t *testing.T) {
	for _, x := range []api.Host{{}, three, mixed, many(32)} {
		ids := []int{math.MinInt, -1, 0, 1, 4, 7, 13, 321, math.MaxInt - 1}
		for _, s := range x.L {
			ids = append(ids, -s.Id)
		}
		for _, id := range ids {
			h, l, e := Drop(own(x), id)
			what := fmt.Sprint("Drop of ", x, id)
			comes(t, what, h, x)
			comes(t, what, l, recs())
			comes(t, what, e, api.ErrNone)
		}
	}
	h, _, _ := Drop(three, 6)
	if h, l, e := Drop(h, 6); e != api.ErrNone || len(h.L) != 2 || len(l) != 0 {
		t.Errorf("dropped twice: %v %v %d", h, l, e)
	}
}

// TestAnswerP7_4: what is said to a query.
func TestAnswerP7_4(t *testing.T) {
	all := recs(rec(api.IsEx, group, 1, 3), rec(api.IsEx, next), rec(api.IsIn, most, 4, 5, 6, 8))
	for _, x := range []struct {
		h api.Host
		q api.Igmp
		l []api.Record
	}{
		// Group 0
		{mixed, query(0), all},
		{mixed, query(0, 1, 4), all},
		{api.Host{}, query(0), nil},
		{host(sock(1, group, in())), query(0), nil},
		{host(sock(1, next, in(7)), sock(2, group, ex())), query(0), recs(rec(api.IsEx, group), rec(api.IsIn, next, 7))},
		// one that it has, and one that it hasn't
		{mixed, query(group), all[:1]},
		{mixed, query(next), all[1:2]},
		{mixed, query(most), all[2:]},
		{mixed, query(least), nil},
		{mixed, query(group - 1), nil},
		{api.Host{}, query(group), nil},
		// with Srcs, of which it wants all, some, none
		{mixed, query(group, 2, 4), recs(rec(api.IsIn, group, 2, 4))},
		{mixed, query(group, 1, 2, 3, 4), recs(rec(api.IsIn, group, 2, 4))},
		{mixed, query(group, 0, 1, greatest), recs(rec(api.IsIn, group, 0, greatest))},
		{mixed, query(group, 1, 3), nil},
		{mixed, query(group, 3), nil},
		{mixed, query(next, 1, 3), recs(rec(api.IsIn, next, 1, 3))},
		{mixed, query(most, 4, 5), recs(rec(api.IsIn, most, 4, 5))},
		{mixed, query(most, 3, 4, 5, 7, 8, 9), recs(rec(api.IsIn, most, 4, 5, 8))},
		{mixed, query(most, 3, 7, 9), nil},
		{mixed, query(least, 1, 2), nil},
		{mixed, query(group-1, 1, 2), nil},
		{api.Host{}, query(group, 1), nil},
		// in any row
		{mixed, query(group, 4, 2), recs(rec(api.IsIn, group, 2, 4))},
		{mixed, query(group, 4, 3, 2, 4, 1, 2), recs(rec(api.IsIn, group, 2, 4))},
		{mixed, query(group, 3, 1, 3), nil},
		{mixed, query(most, 8, 8, 8), recs(rec(api.IsIn, most, 8))},
		{mixed, query(most, 9, 8, 7, 6, 5, 5, 6), recs(rec(api.IsIn, most, 5, 6, 8))},
		{mixed, query(most, 9, 7, 7), nil},
		{many(32), query(group, slices.Concat(srcs(30, 70), srcs(2, 1))...), recs(rec(api.IsIn, group, 2, 30, 31, 32))},
	} {
		comes(t, fmt.Sprint("Answer of ", x.h, x.q), Answer(x.h, x.q), x.l)
	}
}

// TestAnswerAnyP7_4: what else a query has counts for nothing.
func TestAnswerAnyP7_4(t *testing.T) {
	for _, g := range []api.Addr{0, group, next, least, most, 9, greatest} {
		for _, l := range [][]api.Addr{nil, {4}, {5, 1, 5}} {
			want := Answer(mixed, query(g, l...))
			for _, version := range []int{1, 2, 3, 0, 4, -1, math.MaxInt} {
				for _, code := range []byte{0, 1, 255} {
					q := api.Igmp{Kind: api.Query, Version: version, Code: code, Group: g, Srcs: l}
					comes(t, fmt.Sprint("Answer of ", q), Answer(mixed, q), want)
					q.Quiet, q.Robust, q.Every, q.Recs = true, 200, 7, recs(rec(api.ToIn, g, l...))
					comes(t, fmt.Sprint("Answer of ", q), Answer(mixed, q), want)
				}
			}
		}
	}
	for _, g := range []api.Addr{1, 9, least - 1, 3758096385, most + 1, greatest} {
		comes(t, "Answer of no group that is asked about", Answer(mixed, query(g)), recs())
		comes(t, "Answer of no group that is asked about", Answer(mixed, query(g, 4, 5, 9)), recs())
	}
}

// TestAnswerNoQueryP7_4: nothing is said to what is no Query.
func TestAnswerNoQueryP7_4(t *testing.T) {
	for kind := range 256 {
		for _, g := range []api.Addr{0, group, most} {
			for _, l := range [][]api.Addr{nil, {4, 5}} {
				q := query(g, l...)
				q.Kind = byte(kind)
				if n := len(Answer(mixed, q)); n > 0 != (kind == 17) {
					t.Errorf("%d records to %v", n, q)
				}
			}
		}
	}
}

// TestAnswerAllP7_4: of all filters, and all sources that are asked about, in a row and backwards and twice, it says what it wants.
func TestAnswerAllP7_4(t *testing.T) {
	of := []api.Addr{0, 5, 1 << 31, greatest}
	all := filters(of)
	for _, a := range all {
		for _, b := range all {
			h := host(sock(1, group, a), sock(2, next, ex(5)), sock(3, group, b))
			f := together(h, group, of)
			for _, asked := range all {
				if asked.Except || len(asked.Srcs) == 0 {
					continue
				}
				l := those(asked.Srcs, func(x api.Addr) bool { return wants(f, x) })
				want := recs()
				if len(l) > 0 {
					want = recs(rec(api.IsIn, group, l...))
				}
				back := slices.Clone(asked.Srcs)
				slices.Reverse(back)
				comes(t, "Answer", Answer(h, query(group, asked.Srcs...)), want)
				comes(t, "Answer", Answer(h, query(group, back...)), want)
				comes(t, "Answer", Answer(h, query(group, slices.Concat(back, asked.Srcs)...)), want)
			}
		}
	}
}

// numbers tells numbers that are the same ones at each run: each from 0 on, below a bound.
func numbers(seed uint32) func(int) int {
	return func(bound int) int {
		seed = seed*1664525 + 1013904223
		return int(seed>>8) % bound
	}
}

// look holds what a host answers against a look at its sockets.
func look(t *testing.T, h api.Host, groups, of []api.Addr) {
	t.Helper()
	var had []api.Addr
	var all []api.Record
	for _, g := range groups {
		f := together(h, g, of)
		comes(t, "Wants", Wants(h, g), f)
		one := recs(rec(api.IsIn, g, f.Srcs...))
		if f.Except {
			one[0].Type = api.IsEx
		}
		if !f.Except && len(f.Srcs) == 0 {
			one = nil
		} else {
			had = append(had, g)
		}
		comes(t, "Answer of a group", Answer(h, query(g)), one)
		all = append(all, one...)
	}
	comes(t, "Groups", Groups(h), had)
	comes(t, "Answer of Group 0", Answer(h, query(0)), all)
}

// TestWalkP7_5: sockets are put and dropped, in any order: what comes out is right, and what is said of it tells what is wanted then.
func TestWalkP7_5(t *testing.T) {
	groups := []api.Addr{least, group, next, most}
	of := []api.Addr{0, 1, 5, 1 << 31, greatest}
	all := filters(of)
	for seed := range uint32(8) {
		number := numbers(seed)
		var h api.Host
		there := map[int]api.Socket{}
		for range 400 {
			id, g, f := 1+number(40), groups[number(4)], all[number(len(all))]
			old, isThere := there[id]
			want := api.OK
			var is api.Host
			var l []api.Record
			var e api.Errno
			if number(4) == 0 {
				is, l, e = Drop(h, id)
				if isThere {
					delete(there, id)
				} else {
					want = api.ErrNone
				}
			} else {
				is, l, e = Put(h, sock(id, g, f))
				switch {
				case isThere && old.Group != g:
					want = api.ErrArg
				case !isThere && len(there) == 32:
					want = api.ErrFull
				default:
					there[id] = sock(id, g, f)
				}
			}
			comes(t, "the error", e, want)
			if !Right(is) || len(is.L) != len(there) {
				t.Fatalf("%v isn't right", is)
			}
			for _, s := range is.L {
				comes(t, "a socket", s, there[s.Id])
			}
			for _, g := range groups {
				said := slices.DeleteFunc(slices.Clone(l), func(r api.Record) bool { return r.Group != g })
				comes(t, "what is heard", heard(Wants(h, g), said, of), Wants(is, g))
			}
			look(t, is, groups, of)
			h = is
		}
	}
}

// TestSilentP7_5: of what changes nothing nothing is said.
func TestSilentP7_5(t *testing.T) {
	for _, f := range filters([]api.Addr{0, 5, greatest}) {
		comes(t, "Change", Change(group, f, api.Filter{Except: f.Except, Srcs: slices.Clone(f.Srcs)}), recs())
		h := host(sock(2, group, f), sock(4, group, f), sock(6, next, f))
		for _, s := range []api.Socket{h.L[0], h.L[1], sock(1, group, f), sock(3, next, f), sock(9, group, f), sock(7, most, in())} {
			is, l, e := Put(h, s)
			comes(t, fmt.Sprint("Put of ", s), l, recs())
			comes(t, "its error", e, api.OK)
			_, l, e = Drop(is, s.Id) // another one wants the same
			comes(t, fmt.Sprint("Drop of ", s), l, recs())
			comes(t, "its error", e, api.OK)
		}
		_, l, _ := Put(h, h.L[2])
		comes(t, "Put of what is there", l, recs())
	}
}

// TestExample: the example of the chapter, which is the fifth one of the whole.
func TestExample(t *testing.T) {
	h, l, e := Put(api.Host{}, api.Socket{Id: 1, Group: group, Filter: api.Filter{Except: true}})
	if e != api.OK || len(h.L) != 1 || len(l) != 1 || l[0].Type != api.ToEx || l[0].Group != 4009820675 || len(l[0].Srcs) != 0 {
		t.Errorf("%v %v %d", h, l, e)
	}
}

// answers are what the calls answer of a host: hosts, and lists of sources beside them.
func answers(h api.Host) ([]api.Host, [][]api.Addr) {
	var hosts []api.Host
	lists := [][]api.Addr{Groups(h), Wants(h, group).Srcs, Wants(h, most).Srcs}
	keep := func(l []api.Record) {
		for _, r := range l {
			lists = append(lists, r.Srcs)
		}
	}
	both := func(h api.Host, l []api.Record, _ api.Errno) {
		hosts = append(hosts, h)
		keep(l)
	}
	f := h.L[1].Filter
	for _, s := range []api.Socket{sock(1, group, f), sock(3, group, f), sock(3, group, in(f.Srcs...)), sock(3, next, f), sock(4, 0, f), sock(4, least, f)} {
		both(Put(h, s))
	}
	full := host(slices.Concat(h.L, many(32).L)...)
	both(Put(full, sock(math.MaxInt-1, group, f)))
	both(Drop(h, 2))
	both(Drop(h, 3))
	both(Drop(h, 4))
	for _, is := range []api.Filter{in(f.Srcs...), ex(f.Srcs...)} {
		for _, was := range []api.Filter{in(), ex(), in(9), ex(9)} {
			keep(Change(group, was, is))
			keep(Change(group, is, was))
		}
	}
	for _, q := range []api.Igmp{query(0), query(group), query(most), query(group, f.Srcs...), query(most, h.L[0].Filter.Srcs...)} {
		keep(Answer(h, q))
	}
	return hosts, lists
}

// scribble writes into all that hosts and lists have, and have room for.
func scribble(hosts []api.Host, lists [][]api.Addr) {
	for _, h := range hosts {
		for _, s := range h.L {
			lists = append(lists, s.Filter.Srcs)
		}
	}
	for _, l := range lists {
		l = l[:cap(l)]
		for i := range l {
			l[i] = 77
		}
	}
	for _, h := range hosts {
		l := h.L[:cap(h.L)]
		for i := range l {
			l[i] = sock(77, 77, in(77))
		}
	}
}

// TestApart: what is handed in stays as it is, and so does what stands behind it; what comes out is nobody else's; the same is answered again (R3, R4).
func TestApart(t *testing.T) {
	room := append(own(mixed).L, sock(99, group, in(1)), sock(98, group, in(1)))
	for i := range room {
		l := append(room[i].Filter.Srcs, 55, 66)
		room[i].Filter.Srcs = l[:len(l)-2]
	}
	kept := own(host(room...))
	h := host(room[:len(mixed.L)]...)
	hosts, lists := answers(h)
	told := fmt.Sprint(hosts, lists)
	again, more := answers(h)
	comes(t, "the same again", fmt.Sprint(again, more), told)
	scribble(hosts, lists)
	comes(t, "what is handed in", host(room...), kept)
	comes(t, "what came out ahead", fmt.Sprint(again, more), told)
	for i, s := range room {
		comes(t, "what stands behind Srcs", s.Filter.Srcs[:len(s.Filter.Srcs)+2], append(own(kept).L[i].Filter.Srcs, 55, 66))
	}
	scribble([]api.Host{h}, nil)
	comes(t, "what came out, with what was handed in written into", fmt.Sprint(again, more), told)
}

// TestNoneShared: no two lists that come out share anything (R3).
func TestNoneShared(t *testing.T) {
	hosts, lists := answers(own(mixed))
	for _, h := range hosts {
		for _, s := range h.L {
			lists = append(lists, s.Filter.Srcs)
		}
	}
	for i, l := range lists {
		for j := range cap(l) {
			l[:cap(l)][j] = api.Addr(i)
		}
	}
	for i, l := range lists {
		for _, a := range l {
			if a != api.Addr(i) {
				t.Errorf("the list %d shares with the list %d", i, a)
			}
		}
	}
}

// TestQueryStays: the sources of a query stay as they are (R3).
func TestQueryStays(t *testing.T) {
	l := []api.Addr{9, 5, 5, 1, 4}
	Answer(mixed, query(most, l...))
	Answer(mixed, query(group, l[:3]...))
	comes(t, "the Srcs of a query", l, []api.Addr{9, 5, 5, 1, 4})
}

// TestAnyArguments: of hosts and sockets that aren't right every call ends, too (R1).
func TestAnyArguments(t *testing.T) {
	for _, h := range unlike {
		Right(h)
		Groups(h)
		for _, s := range append(slices.Clone(wrong), many(3).L...) {
			Put(h, s)
			Drop(h, s.Id)
			Wants(h, s.Group)
			Change(s.Group, s.Filter, Wants(h, group))
			Change(s.Group, Wants(h, group), s.Filter)
			Answer(h, query(s.Group))
			Answer(h, query(s.Group, s.Filter.Srcs...))
		}
	}
}
