package db

import (
	"fmt"
	"maps"
	"math"
	"slices"
	"testing"

	"stolon/api"
	"stolon/memb"
)

// Groups: at either end of those that are asked about, and between.
const (
	least api.Addr = 3758096640 // 224.0.1.0
	group api.Addr = 4009820675 // 239.1.2.3
	most  api.Addr = 4026531839 // 239.255.255.255
)

// greatest is the greatest address.
const greatest api.Addr = 1<<32 - 1

// longest is the longest time.
const longest = 1000000

// times are those of most tests.
var times = api.Timing{Keep: 10, Last: 2}

// types are all types of records.
var types = []byte{api.IsIn, api.IsEx, api.ToIn, api.ToEx, api.Allow, api.Block}

// held is a source that is kept.
func held(a api.Addr, left int) api.Held { return api.Held{Addr: a, Left: left} }

// in is a place of the group without Except.
func in(port int, l ...api.Held) api.Place {
	return api.Place{Port: port, M: api.Memb{Group: group, Srcs: l}}
}

// ex is a place of the group with Except.
func ex(port, left int, l ...api.Held) api.Place {
	return api.Place{Port: port, M: api.Memb{Group: group, Except: true, Left: left, Srcs: l}}
}

// of is the same place, of another group.
func of(g api.Addr, p api.Place) api.Place {
	p.M.Group = g
	return p
}

// old is the same place, where hosts of old versions were heard.
func old(v1, v2 int, p api.Place) api.Place {
	p.V1, p.V2 = v1, v2
	return p
}

// base is a database with the times of most tests.
func base(limit int, l ...api.Place) api.Db { return api.Db{T: times, Limit: limit, L: l} }

// from is a row of n addresses from a first one on.
func from(first api.Addr, n int) []api.Addr {
	var l []api.Addr
	for i := range n {
		l = append(l, first+api.Addr(i))
	}
	return l
}

// all are sources, kept for one time.
func all(l []api.Addr, left int) []api.Held {
	var r []api.Held
	for _, a := range l {
		r = append(r, held(a, left))
	}
	return r
}

// rec is a record of the group.
func rec(kind byte, l ...api.Addr) api.Record { return recOf(group, kind, l...) }

// recOf is a record of a group.
func recOf(g api.Addr, kind byte, l ...api.Addr) api.Record {
	return api.Record{Type: kind, Group: g, Srcs: l}
}

// v3 is a report of version 3.
func v3(l ...api.Record) api.Igmp { return api.Igmp{Kind: api.ReportV3, Recs: l} }

// said is a message of an older version, of the group.
func said(kind byte) api.Igmp { return api.Igmp{Kind: kind, Group: group} }

// ask is a question to a port of the group.
func ask(port int, l ...api.Addr) api.PortAsk { return askOf(port, group, l...) }

// askOf is a question to a port.
func askOf(port int, g api.Addr, l ...api.Addr) api.PortAsk {
	return api.PortAsk{Port: port, Ask: api.Ask{Group: g, Srcs: l}}
}

// questions are questions, in order.
func questions(l ...api.PortAsk) []api.PortAsk { return l }

// places are n places that rise, from port 0 on, four a port.
func places(n int) []api.Place {
	var l []api.Place
	for i := range n {
		l = append(l, of(least+api.Addr(i%4), ex(i/4, 5)))
	}
	return l
}

// copied is the same in memory of its own.
func copied(d api.Db) api.Db {
	l := slices.Clone(d.L)
	for i := range l {
		l[i].M.Srcs = slices.Clone(l[i].M.Srcs)
	}
	d.L = l
	return d
}

// samePlace holds two places against one another, field by field.
func samePlace(a, b api.Place) bool {
	return a.Port == b.Port && a.V1 == b.V1 && a.V2 == b.V2 &&
		a.M.Group == b.M.Group && a.M.Except == b.M.Except && a.M.Left == b.M.Left && slices.Equal(a.M.Srcs, b.M.Srcs)
}

// same holds two databases against one another, field by field.
func same(a, b api.Db) bool {
	return a.T.Keep == b.T.Keep && a.T.Last == b.T.Last && a.Limit == b.Limit && slices.EqualFunc(a.L, b.L, samePlace)
}

// sameAsk: are two questions the same?
func sameAsk(a, b api.PortAsk) bool {
	return a.Port == b.Port && a.Ask.Group == b.Ask.Group && slices.Equal(a.Ask.Srcs, b.Ask.Srcs)
}

// hears holds what comes of a message against what should.
func hears(t *testing.T, d api.Db, port int, m api.Igmp, want api.Db, q []api.PortAsk, refused int) {
	t.Helper()
	is, got, n := Hear(d, port, m)
	if !same(is, want) || !slices.EqualFunc(got, q, sameAsk) || n != refused {
		t.Errorf("Hear(%v, %d, %v): %v %v %d, not %v %v %d", d, port, m, is, got, n, want, q, refused)
	}
}

// TestRightP9_1: a database is right at the edges that the chapter names.
func TestRightP9_1(t *testing.T) {
	for _, d := range []api.Db{
		base(0),
		base(1),
		base(256),
		{T: api.Timing{Keep: 1, Last: 1}},
		{T: api.Timing{Keep: longest, Last: longest}, Limit: 256},
		base(1, in(0, held(1, 1))),
		base(1, in(63, held(1, 1))),
		base(1, ex(0, 1)),
		base(1, ex(63, longest, held(5, 0))),
		base(1, old(0, longest, ex(7, 1))),
		base(1, old(longest, 0, ex(7, 1))),
		base(1, old(longest, longest, in(7, held(1, 1)))),
		base(1, old(1, 1, in(7, held(1, 1)))),
		base(1, of(least, ex(7, 1))),
		base(1, of(most, ex(7, 1))),
		base(2, ex(7, 1), ex(8, 1)),
		base(2, of(least, ex(7, 1)), ex(7, 1)),
		base(2, of(most, ex(7, 1)), of(least, ex(8, 1))),
		base(9, of(least, ex(0, 1)), of(most, ex(0, 1)), of(least, ex(63, 1)), of(least+1, ex(63, 1)), of(most, ex(63, 1))),
		base(255, places(255)...),
		base(256, places(255)...),
		base(256, places(256)...),
		base(1, in(0, all(from(1, 64), 1)...)),
	} {
		if !Right(d) {
			t.Errorf("%v isn't right", d)
		}
	}
}

// wrongs are databases that aren't right.
func wrongs() []api.Db {
	l := []api.Db{
		{},
		{Limit: 5},
		{T: api.Timing{Keep: 1}},
		{T: api.Timing{Keep: 1, Last: 2}},
		{T: api.Timing{Keep: longest + 1, Last: 1}},
		base(-1),
		base(257),
		base(math.MaxInt),
		base(math.MinInt),
		base(1 << 32),
		base(-1, ex(0, 1)),
		base(257, ex(0, 1)),
		base(257, places(257)...),
		base(256, append(places(256), of(most, ex(63, 1)))...),
		base(0, ex(0, 1)),
		base(1, ex(0, 1), ex(1, 1)),
		base(255, places(256)...),
		{T: api.Timing{Keep: 1, Last: 2}, Limit: 1, L: []api.Place{ex(0, 1)}},
		base(9, ex(1, 1), ex(0, 1)),
		base(9, ex(1, 1), ex(1, 1)),
		base(9, ex(1, 1), ex(1, 2)),
		base(9, ex(1, 1), of(least, ex(1, 1))),
		base(9, ex(1, 1), of(most, ex(0, 1))),
		base(9, of(least, ex(1, 1)), of(most, ex(0, 1))),
		base(9, ex(0, 1), ex(1, 1), ex(1, 1)),
		base(9, ex(0, 1), ex(2, 1), ex(1, 1)),
		base(9, ex(1, 1), ex(0, 1), ex(2, 1)),
		base(9, ex(0, 1), of(most, ex(0, 1)), ex(0, 1)),
		base(9, in(0)),
		base(9, in(0, make([]api.Held, 0, 2)...)),
		base(9, old(5, 5, in(0))),
		base(9, ex(0, 1), in(1)),
		base(9, in(0), ex(1, 1)),
	}
	for _, p := range []api.Place{
		ex(-1, 1), ex(64, 1), ex(math.MinInt, 1), ex(math.MaxInt, 1), ex(1<<32, 1), in(64, held(1, 1)),
		ex(3, 0), ex(3, -1), ex(3, longest+1), in(3, held(1, 0)), in(3, held(2, 1), held(1, 1)), in(3, all(from(1, 65), 1)...),
		of(0, ex(3, 1)), of(least-1, ex(3, 1)), of(most+1, ex(3, 1)),
		{Port: 3, M: api.Memb{Group: group, Left: 1, Srcs: all(from(1, 1), 1)}},
	} {
		l = append(l, base(1, p), base(256, p), base(2, of(least, ex(3, 1)), p))
	}
	for _, v := range []int{-1, longest + 1, math.MinInt, math.MaxInt, 1 << 32} {
		for _, p := range []api.Place{ex(3, 1), in(3, held(1, 1))} {
			l = append(l, base(1, old(v, 0, p)), base(1, old(0, v, p)), base(1, old(v, v, p)), base(1, old(longest, v, p)), base(1, old(v, longest, p)))
			l = append(l, base(2, old(v, 0, p), ex(4, 1)), base(2, ex(2, 1), old(0, v, p)))
		}
	}
	return l
}

// TestNotRightP9_1: nothing else is right.
func TestNotRightP9_1(t *testing.T) {
	for _, d := range wrongs() {
		if Right(d) {
			t.Errorf("%v is right", d)
		}
	}
}

// unlike are databases of which no two are the same; many of them aren't right.
func unlike() []api.Db {
	return []api.Db{
		{},
		{Limit: 1},
		{T: api.Timing{Keep: 1}},
		{T: api.Timing{Last: 1}},
		{T: api.Timing{Keep: 1, Last: 1}},
		base(0),
		base(1),
		base(-1),
		base(1 + 1<<32),
		{T: api.Timing{Keep: 10, Last: 3}, Limit: 1},
		{T: api.Timing{Keep: 11, Last: 2}, Limit: 1},
		{T: api.Timing{Keep: 2, Last: 10}, Limit: 1},
		{T: api.Timing{Keep: 11, Last: 2}, Limit: 1, L: []api.Place{ex(1, 1)}},
		base(1, api.Place{}),
		base(1, api.Place{}, api.Place{}),
		base(1, ex(1, 1)),
		base(2, ex(1, 1)),
		base(1, ex(2, 1)),
		base(1, ex(1+1<<32, 1)),
		base(1, ex(-1, 1)),
		base(1, old(1, 0, ex(1, 1))),
		base(1, old(2, 0, ex(1, 1))),
		base(1, old(0, 1, ex(1, 1))),
		base(1, old(0, 2, ex(1, 1))),
		base(1, old(1, 1, ex(1, 1))),
		base(1, old(-1, 1, ex(1, 1))),
		base(1, old(1+1<<32, 0, ex(1, 1))),
		base(1, of(most, ex(1, 1))),
		base(1, ex(1, 2)),
		base(1, ex(1, 1, held(1, 0))),
		base(1, ex(1, 1, held(1, 1))),
		base(1, in(1)),
		base(1, in(1, held(1, 1))),
		base(1, in(1, held(2, 1))),
		base(1, in(1, held(1, 2))),
		base(1, in(1, held(1, 1), held(2, 1))),
		base(2, ex(1, 1), ex(2, 1)),
		base(2, ex(2, 1), ex(1, 1)),
		base(2, ex(1, 1), ex(1, 1)),
		base(2, ex(1, 1), old(0, 1, ex(2, 1))),
		base(2, ex(1, 1), of(most, ex(1, 1))),
		base(3, ex(1, 1), ex(2, 1), ex(3, 1)),
		base(3, ex(1, 1), ex(2, 1), ex(3, 2)),
		base(256, places(255)...),
		base(256, places(256)...),
		base(256, places(257)...),
	}
}

// TestSameP9_1: two are the same, if all of it is, right or not.
func TestSameP9_1(t *testing.T) {
	for i, a := range unlike() {
		for j, b := range unlike() {
			if Same(a, copied(b)) != (i == j) {
				t.Errorf("Same(%v, %v): not %v", a, b, i == j)
			}
		}
	}
	for i, d := range wrongs() {
		if !Same(d, wrongs()[i]) {
			t.Errorf("Same(%v): not with itself", d)
		}
	}
	none, bare := base(1, make([]api.Place, 0, 3)...), base(1, in(1, make([]api.Held, 0, 3)...))
	if !Same(base(1), none) || !Same(none, base(1)) || !Same(base(1, in(1)), bare) || !Same(bare, base(1, in(1))) {
		t.Error("two without elements aren't the same")
	}
}

// TestNewP9_1: a new one has no places.
func TestNewP9_1(t *testing.T) {
	for _, x := range []api.Timing{times, {Keep: 1, Last: 1}, {Keep: 2, Last: 1}, {Keep: longest, Last: 1}, {Keep: longest, Last: longest}} {
		for _, limit := range []int{0, 1, 2, 64, 255, 256} {
			d, e := New(x, limit)
			if e != api.OK || d.T != x || d.Limit != limit || len(d.L) != 0 || !Right(d) {
				t.Errorf("New(%v, %d): %v %d", x, limit, d, e)
			}
		}
	}
}

// TestNewErrArgP9_1: of times that may not be, and of a limit that is none, there is none.
func TestNewErrArgP9_1(t *testing.T) {
	refuses := func(x api.Timing, limit int) {
		t.Helper()
		if d, e := New(x, limit); e != api.ErrArg || !same(d, api.Db{}) || d.L != nil {
			t.Errorf("New(%v, %d): %v %d", x, limit, d, e)
		}
	}
	for _, limit := range []int{-1, 257, 1000, math.MinInt, math.MaxInt, 1 << 32} {
		refuses(times, limit)
	}
	for _, x := range []api.Timing{{}, {Keep: 1}, {Last: 1}, {Keep: 1, Last: 2}, {Keep: 2, Last: -1}, {Keep: longest + 1, Last: 1}, {Keep: longest + 1, Last: longest + 1}, {Keep: -1, Last: -1}} {
		for _, limit := range []int{-1, 0, 1, 256, 257} {
			refuses(x, limit)
		}
	}
}

// several is a database with places at both ends of ports and groups, and between.
func several() api.Db {
	return base(8,
		of(least, ex(0, 9)),
		of(group, in(0, held(1, 3), held(5, 3))),
		of(group, ex(3, 4, held(1, 0), held(2, 1))),
		of(most, in(3, held(0, 1), held(greatest, 1))),
		of(least, in(4, held(5, 1))),
		of(group, in(62, held(2, 2))),
		of(least, ex(63, 1, held(5, 0), held(greatest, 0))),
		of(most, ex(63, 9)),
	)
}

// TestWantsP9_1: a port wants what its place of the group wants, if it is there.
func TestWantsP9_1(t *testing.T) {
	d := several()
	for _, x := range []struct {
		port   int
		g      api.Addr
		wanted []api.Addr
		not    []api.Addr
	}{
		{0, least, from(0, 7), nil},
		{0, least, []api.Addr{greatest}, nil},
		{0, group, []api.Addr{1, 5}, []api.Addr{0, 2, 4, 6, greatest}},
		{0, most, nil, []api.Addr{0, 1, 5, greatest}},
		{0, group - 1, nil, []api.Addr{0, 1, 5, greatest}},
		{0, group + 1, nil, []api.Addr{0, 1, 5, greatest}},
		{1, group, nil, []api.Addr{0, 1, 2, 5}},
		{2, group, nil, []api.Addr{0, 1, 2, 5}},
		{3, group, []api.Addr{0, 2, 3, 5, greatest}, []api.Addr{1}},
		{3, least, nil, []api.Addr{0, 2, 5}},
		{3, most, []api.Addr{0, greatest}, []api.Addr{1, 2, 1 << 31}},
		{4, least, []api.Addr{5}, []api.Addr{0, 1, 4, 6, greatest}},
		{4, group, nil, []api.Addr{5}},
		{62, group, []api.Addr{2}, []api.Addr{1, 5, 0}},
		{63, least, []api.Addr{0, 4, 6, 1 << 31}, []api.Addr{5, greatest}},
		{63, group, nil, []api.Addr{0, 2, 5}},
		{63, most, []api.Addr{0, 5, greatest}, nil},
		{64, most, nil, []api.Addr{0, 5, greatest}},
		{-1, least, nil, []api.Addr{0, 5, greatest}},
		{1 << 32, least, nil, []api.Addr{0, 5}},
		{math.MaxInt, most, nil, []api.Addr{0, 5}},
		{math.MinInt, least, nil, []api.Addr{0, 5}},
		{0, 0, nil, []api.Addr{0, 1, 5}},
		{63, greatest, nil, []api.Addr{0, 1, 5}},
	} {
		for _, a := range x.wanted {
			if !Wants(d, x.port, x.g, a) {
				t.Errorf("%d doesn't want %d of %d", x.port, a, x.g)
			}
		}
		for _, a := range x.not {
			if Wants(d, x.port, x.g, a) {
				t.Errorf("%d wants %d of %d", x.port, a, x.g)
			}
		}
	}
	if Wants(base(9), 0, group, 1) || Wants(base(0), 3, group, 0) {
		t.Error("without places something is wanted")
	}
}

// TestPortsP9_1: the ports that want it are told, rising.
func TestPortsP9_1(t *testing.T) {
	full := base(256)
	var every []int
	for port := range 64 {
		full.L = append(full.L, ex(port, 1))
		every = append(every, port)
	}
	for _, x := range []struct {
		d    api.Db
		g    api.Addr
		src  api.Addr
		want []int
	}{
		{base(9), group, 1, nil},
		{several(), least, 1, []int{0, 63}},
		{several(), least, 5, []int{0, 4}},
		{several(), least, greatest, []int{0}},
		{several(), group, 1, []int{0}},
		{several(), group, 2, []int{3, 62}},
		{several(), group, 5, []int{0, 3}},
		{several(), group, 7, []int{3}},
		{several(), most, 0, []int{3, 63}},
		{several(), most, 1, []int{63}},
		{several(), group + 1, 1, nil},
		{several(), 0, 0, nil},
		{several(), greatest, greatest, nil},
		{base(1, in(9, held(4, 1))), group, 5, nil},
		{full, group, 5, every},
		{full, least, 5, nil},
	} {
		if got := Ports(x.d, x.g, x.src); !slices.Equal(got, x.want) {
			t.Errorf("Ports(%v, %d, %d): %v, not %v", x.d, x.g, x.src, got, x.want)
		}
	}
}

// TestPortsAreWantsP9_1: those are told that want it, and no others.
func TestPortsAreWantsP9_1(t *testing.T) {
	d := several()
	for _, g := range []api.Addr{0, least, group, most} {
		for _, src := range []api.Addr{0, 1, 2, 3, 5, greatest} {
			var l []int
			for port := -1; port <= 64; port++ {
				if Wants(d, port, g, src) {
					l = append(l, port)
				}
			}
			if got := Ports(d, g, src); !slices.Equal(got, l) {
				t.Errorf("Ports(%d, %d): %v, not %v", g, src, got, l)
			}
		}
	}
}

// TestHearNewP9_2: each kind of message, and each type of record, on a place that isn't there.
func TestHearNewP9_2(t *testing.T) {
	full := from(1, 64)
	for _, x := range []struct {
		m    api.Igmp
		want []api.Place
	}{
		{said(api.ReportV1), []api.Place{old(10, 0, ex(5, 10))}},
		{said(api.ReportV2), []api.Place{old(0, 10, ex(5, 10))}},
		{said(api.Leave), nil},
		{v3(), nil},
		{v3(rec(api.IsIn)), nil},
		{v3(rec(api.IsIn, 3, 1, 3)), []api.Place{in(5, held(1, 10), held(3, 10))}},
		{v3(rec(api.IsEx)), []api.Place{ex(5, 10)}},
		{v3(rec(api.IsEx, 3, 1, 3)), []api.Place{ex(5, 10, held(1, 0), held(3, 0))}},
		{v3(rec(api.ToIn)), nil},
		{v3(rec(api.ToIn, 7)), []api.Place{in(5, held(7, 10))}},
		{v3(rec(api.ToEx)), []api.Place{ex(5, 10)}},
		{v3(rec(api.ToEx, 7)), []api.Place{ex(5, 10, held(7, 0))}},
		{v3(rec(api.Allow)), nil},
		{v3(rec(api.Allow, 0, greatest)), []api.Place{in(5, held(0, 10), held(greatest, 10))}},
		{v3(rec(api.Block)), nil},
		{v3(rec(api.Block, 7, 8)), nil},
		{v3(rec(api.IsIn, full...)), []api.Place{in(5, all(full, 10)...)}},
		{v3(rec(api.ToEx, full...)), []api.Place{ex(5, 10, all(full, 0)...)}},
	} {
		hears(t, base(9), 5, x.m, base(9, x.want...), nil, 0)
		hears(t, base(1), 5, x.m, base(1, x.want...), nil, 0)
		ahead, behind := of(most, ex(4, 1)), of(least, old(3, 0, in(6, held(1, 1))))
		hears(t, base(9, ahead, behind), 5, x.m, base(9, slices.Concat([]api.Place{ahead}, x.want, []api.Place{behind})...), nil, 0)
		ahead, behind = of(group-1, old(3, 3, ex(5, 1))), of(group+1, old(7, 0, ex(5, 1)))
		hears(t, base(9, ahead, behind), 5, x.m, base(9, slices.Concat([]api.Place{ahead}, x.want, []api.Place{behind})...), nil, 0)
		ahead, behind = ex(4, 1), ex(6, 1)
		hears(t, base(3, ahead, behind), 5, x.m, base(3, slices.Concat([]api.Place{ahead}, x.want, []api.Place{behind})...), nil, 0)
	}
}

// TestHearThereP9_2: each kind of message, and each type of record, on a place that is there.
func TestHearThereP9_2(t *testing.T) {
	a, b := in(5, held(1, 3), held(2, 1)), ex(5, 4, held(1, 0), held(2, 3))
	for _, x := range []struct {
		p    api.Place
		m    api.Igmp
		want api.Place
		q    []api.PortAsk
	}{
		{a, said(api.ReportV1), old(10, 0, ex(5, 10)), nil},
		{b, said(api.ReportV1), old(10, 0, ex(5, 10)), nil},
		{a, said(api.ReportV2), old(0, 10, ex(5, 10)), nil},
		{b, said(api.ReportV2), old(0, 10, ex(5, 10)), nil},
		{a, said(api.Leave), in(5, held(1, 2), held(2, 1)), questions(ask(5, 1, 2))},
		{b, said(api.Leave), ex(5, 2, held(1, 0), held(2, 2)), questions(ask(5, 2), ask(5))},
		{ex(5, 9), said(api.Leave), ex(5, 2), questions(ask(5))},
		{a, v3(), a, nil},
		{b, v3(), b, nil},
		{a, v3(rec(api.IsIn, 2, 3)), in(5, held(1, 3), held(2, 10), held(3, 10)), nil},
		{b, v3(rec(api.IsIn, 1, 3)), ex(5, 4, held(1, 10), held(2, 3), held(3, 10)), nil},
		{a, v3(rec(api.Allow, 2, 3)), in(5, held(1, 3), held(2, 10), held(3, 10)), nil},
		{b, v3(rec(api.Allow)), b, nil},
		{a, v3(rec(api.IsEx, 1, 3)), ex(5, 10, held(1, 3), held(3, 0)), nil},
		{b, v3(rec(api.IsEx, 1, 3)), ex(5, 10, held(1, 0), held(3, 10)), nil},
		{a, v3(rec(api.ToIn, 2)), in(5, held(1, 2), held(2, 10)), questions(ask(5, 1))},
		{b, v3(rec(api.ToIn, 1)), ex(5, 2, held(1, 10), held(2, 2)), questions(ask(5, 2), ask(5))},
		{a, v3(rec(api.ToEx, 1, 3)), ex(5, 10, held(1, 2), held(3, 0)), questions(ask(5, 1))},
		{b, v3(rec(api.ToEx, 3)), ex(5, 10, held(3, 2)), questions(ask(5, 3))},
		{a, v3(rec(api.Block, 1, 3)), in(5, held(1, 2), held(2, 1)), questions(ask(5, 1))},
		{b, v3(rec(api.Block, 1, 2, 3)), ex(5, 4, held(1, 0), held(2, 2), held(3, 2)), questions(ask(5, 2, 3))},
	} {
		ahead, behind := of(group-1, old(3, 3, ex(5, 1))), of(group+1, old(7, 0, ex(5, 1)))
		hears(t, base(1, x.p), 5, x.m, base(1, x.want), x.q, 0)
		hears(t, base(3, ahead, x.p, behind), 5, x.m, base(3, ahead, x.want, behind), x.q, 0)
		hears(t, base(3, ex(4, 1), x.p, ex(6, 1)), 5, x.m, base(3, ex(4, 1), x.want, ex(6, 1)), x.q, 0)
	}
}

// TestHearOldP9_2: what hosts of old versions keep from being heard.
func TestHearOldP9_2(t *testing.T) {
	a, b := in(5, held(1, 3)), ex(5, 4, held(1, 0), held(2, 3))
	for _, x := range []struct {
		p    api.Place
		m    api.Igmp
		v1   api.Place // where V1 is above 0
		q1   []api.PortAsk
		v2   api.Place // where only V2 is
		q2   []api.PortAsk
		none api.Place // where neither is
		q    []api.PortAsk
	}{
		{a, said(api.Leave), a, nil, in(5, held(1, 2)), questions(ask(5, 1)), in(5, held(1, 2)), questions(ask(5, 1))},
		{b, said(api.Leave), b, nil, ex(5, 2, held(1, 0), held(2, 2)), questions(ask(5, 2), ask(5)), ex(5, 2, held(1, 0), held(2, 2)), questions(ask(5, 2), ask(5))},
		{a, v3(rec(api.ToIn, 7)), a, nil, in(5, held(1, 2), held(7, 10)), questions(ask(5, 1)), in(5, held(1, 2), held(7, 10)), questions(ask(5, 1))},
		{b, v3(rec(api.ToIn, 2)), b, nil, ex(5, 2, held(1, 0), held(2, 10)), questions(ask(5)), ex(5, 2, held(1, 0), held(2, 10)), questions(ask(5))},
		{a, v3(rec(api.Block, 1)), a, nil, a, nil, in(5, held(1, 2)), questions(ask(5, 1))},
		{b, v3(rec(api.Block, 2, 3)), b, nil, b, nil, ex(5, 4, held(1, 0), held(2, 2), held(3, 2)), questions(ask(5, 2, 3))},
		{a, v3(rec(api.ToEx, 1, 7)), ex(5, 10), nil, ex(5, 10), nil, ex(5, 10, held(1, 2), held(7, 0)), questions(ask(5, 1))},
		{b, v3(rec(api.ToEx, 2, 7)), ex(5, 10), nil, ex(5, 10), nil, ex(5, 10, held(2, 2), held(7, 2)), questions(ask(5, 2, 7))},
	} {
		for _, v := range []int{1, 2, 10, longest} {
			hears(t, base(1, old(v, 0, x.p)), 5, x.m, base(1, old(v, 0, x.v1)), x.q1, 0)
			hears(t, base(1, old(v, 1, x.p)), 5, x.m, base(1, old(v, 1, x.v1)), x.q1, 0)
			hears(t, base(1, old(1, v, x.p)), 5, x.m, base(1, old(1, v, x.v1)), x.q1, 0)
			hears(t, base(1, old(0, v, x.p)), 5, x.m, base(1, old(0, v, x.v2)), x.q2, 0)
		}
		hears(t, base(1, x.p), 5, x.m, base(1, x.none), x.q, 0)
	}
}

// TestHearStillP9_2: IsIn, IsEx and Allow are heard in any case, and with them reports of old versions.
func TestHearStillP9_2(t *testing.T) {
	a, b := in(5, held(1, 3)), ex(5, 4, held(1, 0), held(2, 3))
	for _, v := range [][2]int{{0, 0}, {1, 0}, {0, 1}, {1, 1}, {longest, longest}} {
		was := func(p api.Place) api.Db { return base(1, old(v[0], v[1], p)) }
		for _, kind := range []byte{api.IsIn, api.Allow} {
			hears(t, was(a), 5, v3(rec(kind, 7)), was(in(5, held(1, 3), held(7, 10))), nil, 0)
			hears(t, was(b), 5, v3(rec(kind, 1)), was(ex(5, 4, held(1, 10), held(2, 3))), nil, 0)
		}
		hears(t, was(a), 5, v3(rec(api.IsEx, 1, 7)), was(ex(5, 10, held(1, 3), held(7, 0))), nil, 0)
		hears(t, was(b), 5, v3(rec(api.IsEx, 1, 7)), was(ex(5, 10, held(1, 0), held(7, 10))), nil, 0)
		for _, p := range []api.Place{a, b} {
			hears(t, was(p), 5, said(api.ReportV1), base(1, old(10, v[1], ex(5, 10))), nil, 0)
			hears(t, was(p), 5, said(api.ReportV2), base(1, old(v[0], 10, ex(5, 10))), nil, 0)
		}
	}
	for _, x := range []api.Timing{{Keep: 1, Last: 1}, {Keep: longest, Last: 2}} {
		d := api.Db{T: x, Limit: 1}
		hears(t, d, 0, said(api.ReportV1), api.Db{T: x, Limit: 1, L: []api.Place{old(x.Keep, 0, ex(0, x.Keep))}}, nil, 0)
		hears(t, d, 0, said(api.ReportV2), api.Db{T: x, Limit: 1, L: []api.Place{old(0, x.Keep, ex(0, x.Keep))}}, nil, 0)
	}
}

// TestHearEdgesP9_2: ports and groups at either end are heard.
func TestHearEdgesP9_2(t *testing.T) {
	for _, port := range []int{0, 1, 62, 63} {
		for _, g := range []api.Addr{least, group, most} {
			for _, kind := range []byte{api.ReportV1, api.ReportV2} {
				is, _, n := Hear(several(), port, api.Igmp{Kind: kind, Group: g})
				if n != 0 && len(is.L) < 8 || !Right(is) {
					t.Errorf("%d %d %d: %v %d", port, g, kind, is, n)
				}
			}
			hears(t, base(1), port, v3(recOf(g, api.ToEx, 5)), base(1, of(g, ex(port, 10, held(5, 0)))), nil, 0)
			hears(t, base(1, of(g, in(port, held(6, 9)))), port, api.Igmp{Kind: api.Leave, Group: g}, base(1, of(g, in(port, held(6, 2)))), questions(askOf(port, g, 6)), 0)
			hears(t, base(1, of(g, ex(port, 9))), port, v3(recOf(g, api.Block, 6)), base(1, of(g, ex(port, 9, held(6, 2)))), questions(askOf(port, g, 6)), 0)
		}
	}
}

// TestHearFullP9_2: where there is no room for a place more, what would need it is refused, and nothing else.
func TestHearFullP9_2(t *testing.T) {
	here := base(1, in(5, held(1, 9)))
	for _, d := range []api.Db{base(0), base(1, of(most, ex(5, 1))), base(1, ex(4, 1)), here, base(256, places(256)...), base(3, places(3)...)} {
		port, g := 5, api.Addr(most-1)
		at := func(kind byte) api.Igmp { return api.Igmp{Kind: kind, Group: g} }
		hears(t, d, port, at(api.ReportV1), d, nil, 1)
		hears(t, d, port, at(api.ReportV2), d, nil, 1)
		hears(t, d, port, at(api.Leave), d, nil, 0)
		for _, kind := range types {
			n := 1
			if kind == api.Block {
				n = 0
			}
			hears(t, d, port, v3(recOf(g, kind, 1, 2)), d, nil, n)
			n = 0
			if kind == api.IsEx || kind == api.ToEx {
				n = 1
			}
			hears(t, d, port, v3(recOf(g, kind)), d, nil, n)
		}
		hears(t, d, port, v3(slices.Repeat([]api.Record{recOf(g, api.IsIn, 1)}, 32)...), d, nil, 32)
	}
	hears(t, here, 5, said(api.ReportV1), base(1, old(10, 0, ex(5, 10))), nil, 0)
	hears(t, here, 5, said(api.ReportV2), base(1, old(0, 10, ex(5, 10))), nil, 0)
	hears(t, here, 5, said(api.Leave), base(1, in(5, held(1, 2))), questions(ask(5, 1)), 0)
	hears(t, here, 5, v3(rec(api.Allow, 2)), base(1, in(5, held(1, 9), held(2, 10))), nil, 0)
	d := base(256, places(255)...)
	hears(t, d, 63, said(api.ReportV1), base(256, append(places(255), old(10, 0, ex(63, 10)))...), nil, 0)
}

// TestHearTooManyP9_2: what chapter 8 refuses is refused.
func TestHearTooManyP9_2(t *testing.T) {
	full := all(from(1, 64), 9)
	for _, p := range []api.Place{in(5, full...), ex(5, 9, full...), old(0, 7, in(5, full...)), old(0, 7, ex(5, 9, full...))} {
		d := base(7, ex(4, 1), p, ex(6, 1))
		for _, kind := range []byte{api.IsIn, api.Allow, api.ToIn} {
			hears(t, d, 5, v3(rec(kind, 65)), d, nil, 1)
			hears(t, d, 5, v3(rec(kind, 65), rec(kind, 0), rec(kind, 66, 67)), d, nil, 3)
		}
	}
	d := base(1, ex(5, 9, full...))
	hears(t, d, 5, v3(rec(api.Block, 65)), d, nil, 1)
	d = base(1, old(1, 0, ex(5, 9, full...)))
	hears(t, d, 5, v3(rec(api.Block, 65), rec(api.ToIn, 65)), d, nil, 0)
	hears(t, d, 5, v3(rec(api.Allow, 65), rec(api.ToEx, from(1, 64)...), rec(api.Allow, 65)), base(1, old(1, 0, ex(5, 10, held(65, 10)))), nil, 1)
}

// TestHearRecordsP9_2: the records of a report are heard in order.
func TestHearRecordsP9_2(t *testing.T) {
	hears(t, base(9), 5, v3(rec(api.IsIn, 1), rec(api.IsEx, 1, 2)), base(9, ex(5, 10, held(1, 10), held(2, 0))), nil, 0)
	hears(t, base(9), 5, v3(rec(api.IsEx, 1, 2), rec(api.IsIn, 1)), base(9, ex(5, 10, held(1, 10), held(2, 0))), nil, 0)
	hears(t, base(9), 5, v3(rec(api.IsEx, 1, 2), rec(api.ToIn, 1)), base(9, ex(5, 2, held(1, 10), held(2, 0))), questions(ask(5)), 0)
	hears(t, base(9), 5, v3(rec(api.ToIn, 1), rec(api.IsEx, 1, 2)), base(9, ex(5, 10, held(1, 10), held(2, 0))), nil, 0)
	hears(t, base(9), 5, v3(recOf(most, api.IsIn, 1), recOf(least, api.IsIn, 2), rec(api.IsIn, 3)),
		base(9, of(least, in(5, held(2, 10))), in(5, held(3, 10)), of(most, in(5, held(1, 10)))), nil, 0)
	d := base(9, of(least, in(5, held(1, 9))), ex(5, 9), of(most, in(5, held(4, 1))))
	hears(t, d, 5, v3(recOf(most, api.Block, 4), rec(api.ToIn, 7), recOf(least, api.ToEx, 1), rec(api.Block, 8)),
		base(9, of(least, ex(5, 10, held(1, 2))), ex(5, 2, held(7, 10), held(8, 2)), of(most, in(5, held(4, 1)))),
		questions(askOf(5, most, 4), ask(5), askOf(5, least, 1), ask(5, 8)), 0)
	hears(t, base(1), 5, v3(rec(api.IsIn, 1), recOf(least, api.IsIn, 2), recOf(most, api.ToEx), rec(api.Block, 1)),
		base(1, in(5, held(1, 2))), questions(ask(5, 1)), 2)
	hears(t, base(2, ex(9, 1)), 5, v3(recOf(least, api.Allow), recOf(most, api.IsIn, 6), rec(api.IsEx), recOf(most, api.ToIn, 7)),
		base(2, of(most, in(5, held(6, 2), held(7, 10))), ex(9, 1)), questions(askOf(5, most, 6)), 1)
}

// TestHearAgainP9_2: a place that isn't there any more comes again as a new one.
func TestHearAgainP9_2(t *testing.T) {
	d := Tick(base(1, old(9, 9, in(5, held(1, 3)))), 3)
	hears(t, d, 5, v3(rec(api.ToIn, 7), rec(api.Block, 7)), base(1, in(5, held(7, 2))), questions(ask(5, 7)), 0)
	hears(t, base(1, old(9, 9, in(5))), 5, v3(rec(api.Allow), rec(api.Allow, 7)), base(1, in(5, held(7, 10))), nil, 0) // nothing is known of it: that goes
}

// TestHearNothingP9_2: of a Query, and of a port that is none, nothing is heard.
func TestHearNothingP9_2(t *testing.T) {
	for _, d := range []api.Db{base(0), base(9), several(), base(256, places(256)...), base(9, old(3, 3, ex(5, 4, held(1, 0))))} {
		for _, m := range []api.Igmp{
			{Kind: api.Query, Version: 1},
			{Kind: api.Query, Version: 2, Code: 1},
			{Kind: api.Query, Version: 2, Code: 1, Group: group},
			{Kind: api.Query, Version: 3, Group: group, Srcs: from(1, 2)},
			{Kind: api.Query, Version: 3, Quiet: true, Robust: 7, Every: 9},
		} {
			for _, port := range []int{0, 3, 5, 63, 64, -1} {
				hears(t, d, port, m, d, nil, 0)
			}
		}
		for _, m := range []api.Igmp{said(api.ReportV1), said(api.ReportV2), said(api.Leave), v3(), v3(rec(api.IsEx, 1), rec(api.ToIn, 2))} {
			for _, port := range []int{-1, 64, 65, 1 << 32, math.MinInt, math.MaxInt} {
				hears(t, d, port, m, d, nil, 0)
			}
		}
	}
	d := base(9, ex(64, 9), ex(65, 9))
	hears(t, d, 64, said(api.Leave), d, nil, 0) // not even where a wrong place is there
}

// TestTickP9_3: all times are less, 0 at least; places that aren't some go.
func TestTickP9_3(t *testing.T) {
	d := base(9,
		of(least, old(2, 5, ex(0, 3))),
		of(most, old(9, 0, in(0, held(1, 1), held(2, 4)))),
		old(0, 1, ex(7, 2, held(1, 0), held(2, 6))),
		old(longest, longest, in(63, held(3, 2))),
	)
	one := base(9,
		of(least, old(1, 4, ex(0, 2))),
		of(most, old(8, 0, in(0, held(2, 3)))),
		ex(7, 1, held(1, 0), held(2, 5)),
		old(longest-1, longest-1, in(63, held(3, 1))),
	)
	two := base(9, of(least, old(0, 3, ex(0, 1))), of(most, old(7, 0, in(0, held(2, 2)))), in(7, held(2, 4)))
	for _, x := range []struct {
		n    int
		want api.Db
	}{
		{math.MinInt, d},
		{-7, d},
		{-1, d},
		{0, d},
		{1, one},
		{2, two},
		{3, base(9, of(most, old(6, 0, in(0, held(2, 1)))), in(7, held(2, 3)))},
		{4, base(9, in(7, held(2, 2)))},
		{5, base(9, in(7, held(2, 1)))},
		{6, base(9)},
		{longest, base(9)},
		{math.MaxInt, base(9)},
	} {
		if got := Tick(d, x.n); !same(got, x.want) {
			t.Errorf("Tick(%d): %v, not %v", x.n, got, x.want)
		}
	}
	for _, d := range []api.Db{base(0), base(256), {T: api.Timing{Keep: 1, Last: 1}, Limit: 3}} {
		if got := Tick(d, 5); !same(got, d) {
			t.Errorf("Tick(%v): %v", d, got)
		}
	}
	keeps := base(1, old(longest, 3, ex(5, longest)))
	if got := Tick(keeps, longest-1); !same(got, base(1, old(1, 0, ex(5, 1)))) {
		t.Errorf("Tick(%v): %v", keeps, got)
	}
	none := api.Db{T: times, Limit: 256, L: places(256)}
	if got := Tick(none, 4); !same(got, Tick(Tick(none, 1), 3)) || len(got.L) != 256 || len(Tick(got, 1).L) != 0 {
		t.Errorf("Tick of all: %v", got)
	}
}

// model is a database as places by their ports and groups.
type model map[[2]int]api.Place

// modelOf is a database's model.
func modelOf(d api.Db) model {
	m := model{}
	for _, p := range d.L {
		m[[2]int{p.Port, int(p.M.Group)}] = p
	}
	return m
}

// base is the database of a model.
func (m model) base(d api.Db) api.Db {
	d.L = nil
	byGroup := slices.SortedFunc(maps.Values(m), func(a, b api.Place) int { return int(a.M.Group) - int(b.M.Group) })
	for port := range api.MaxPorts {
		for _, p := range byGroup {
			if p.Port == port {
				d.L = append(d.L, p)
			}
		}
	}
	return d
}

// hears lets a model hear one record; it tells what is asked, and whether the record is refused.
func (m model) hears(d api.Db, port int, r api.Record) ([]api.PortAsk, bool) {
	k := [2]int{port, int(r.Group)}
	p, isThere := m[k]
	p.Port, p.M.Group = port, r.Group
	if p.V1 > 0 && (r.Type == 3 || r.Type == 6) {
		return nil, false
	}
	if p.V2 > 0 && r.Type == 6 {
		return nil, false
	}
	l := r.Srcs
	if (p.V1 > 0 || p.V2 > 0) && r.Type == 4 {
		l = nil
	}
	next, asked, e := memb.Hear(d.T, p.M, r.Type, l)
	if e != api.OK || !isThere && memb.Some(next) && len(m) == d.Limit {
		return nil, true
	}
	p.M = next
	if memb.Some(next) {
		m[k] = p
	}
	var q []api.PortAsk
	for _, a := range asked {
		q = append(q, api.PortAsk{Port: port, Ask: a})
	}
	return q, false
}

// after is what should come of a message.
func after(d api.Db, port int, x api.Igmp) (api.Db, []api.PortAsk, int) {
	if port < 0 || port > 63 {
		return d, nil, 0
	}
	m := modelOf(d)
	var q []api.PortAsk
	refused := 0
	l := x.Recs
	switch x.Kind {
	case 18, 22:
		l = []api.Record{{Type: 2, Group: x.Group}}
	case 23:
		l = []api.Record{{Type: 3, Group: x.Group}}
	}
	for _, r := range l {
		asked, no := m.hears(d, port, r)
		q = append(q, asked...)
		if no {
			refused++
		}
	}
	k := [2]int{port, int(x.Group)}
	if p, isThere := m[k]; isThere && x.Kind == 18 {
		p.V1 = d.T.Keep
		m[k] = p
	} else if isThere && x.Kind == 22 {
		p.V2 = d.T.Keep
		m[k] = p
	}
	return m.base(d), q, refused
}

// TestHearAllP9_2: each type of record, of several rows, on each of several places, with all sorts of V1 and V2, held against what should come of it.
func TestHearAllP9_2(t *testing.T) {
	rows := [][]api.Addr{nil, {1}, {2, 3}, {3, 1, 3}, from(1, 64), from(100, 64)}
	full := all(from(1, 64), 3)
	for _, p := range []api.Place{in(5, held(1, 3)), in(5, held(1, 1), held(2, 9)), ex(5, 1), ex(5, 9, held(1, 0), held(2, 4)), in(5, full...), ex(5, 4, full...)} {
		for _, v := range [][2]int{{0, 0}, {0, 1}, {1, 0}, {1, 1}, {0, longest}, {longest, 0}} {
			for _, limit := range []int{1, 2} {
				d := base(limit, old(v[0], v[1], p))
				for _, port := range []int{4, 5, 6} {
					for _, l := range rows {
						for _, kind := range types {
							m := v3(rec(kind, l...))
							want, q, n := after(d, port, m)
							hears(t, d, port, m, want, q, n)
						}
					}
					for _, kind := range []byte{api.ReportV1, api.ReportV2, api.Leave} {
						want, q, n := after(d, port, said(kind))
						hears(t, d, port, said(kind), want, q, n)
					}
				}
			}
		}
	}
}

// numbers tells numbers that are the same ones at each run: each from 0 on, below a bound.
func numbers(seed uint32) func(int) int {
	return func(bound int) int {
		seed = seed*1664525 + 1013904223
		return int(seed>>8) % bound
	}
}

// message is one of many messages, of some groups.
func message(number func(int) int) api.Igmp {
	g := func() api.Addr { return []api.Addr{least, least + 1, group, most}[number(4)] }
	switch kind := []byte{api.Query, api.ReportV1, api.ReportV2, api.Leave, api.ReportV3, api.ReportV3, api.ReportV3}[number(7)]; kind {
	case api.Query:
		return api.Igmp{Kind: kind, Version: 3, Group: g(), Srcs: from(1, number(3))}
	case api.ReportV3:
		var l []api.Record
		for range number(5) {
			l = append(l, recOf(g(), types[number(6)], from(api.Addr(number(100)), number([]int{2, 5, 60}[number(3)]))...))
		}
		return v3(l...)
	default:
		return api.Igmp{Kind: kind, Group: g()}
	}
}

// stays holds it that the places of which a message doesn't speak are as they were.
func stays(t *testing.T, was, is api.Db, port int, m api.Igmp) {
	t.Helper()
	for _, p := range was.L {
		i := slices.IndexFunc(is.L, func(x api.Place) bool { return x.Port == p.Port && x.M.Group == p.M.Group })
		isOf := p.Port == port && (m.Group == p.M.Group || slices.ContainsFunc(m.Recs, func(r api.Record) bool { return r.Group == p.M.Group }))
		if i < 0 || !isOf && !samePlace(is.L[i], p) {
			t.Errorf("Hear(%v, %d, %v): of %v there is %v", was, port, m, p, is)
		}
	}
}

// TestWalkP9_4: messages and ticks, in any order: what comes out is right, and as it should be; and no place is taken away by others' records.
func TestWalkP9_4(t *testing.T) {
	refused, gone, asked := 0, 0, 0
	for seed := range uint32(60) {
		number := numbers(seed)
		x := api.Timing{Keep: 1 + number(30)}
		x.Last = 1 + number(x.Keep)
		d, e := New(x, []int{0, 1, 3, 8, 20, 256}[number(6)])
		if e != api.OK {
			t.Fatal(e)
		}
		for range 200 {
			if number(3) == 0 {
				n := number(x.Keep/2 + 1)
				is := Tick(d, n)
				ticked(t, d, is, n)
				gone += len(d.L) - len(is.L)
				d = is
			}
			port, m := []int{-1, 0, 1, 2, 62, 63, 64}[number(7)], message(number)
			want, q, n := after(d, port, m)
			hears(t, d, port, m, want, q, n)
			is, _, _ := Hear(d, port, m)
			stays(t, d, is, port, m)
			if !Right(is) {
				t.Fatalf("%v isn't right", is)
			}
			d = is
			refused, asked = refused+n, asked+len(q)
		}
	}
	if refused < 100 || gone < 100 || asked < 100 {
		t.Errorf("only %d records were refused, %d places went, %d was asked", refused, gone, asked)
	}
}

// ticked holds what comes of n ticks against each place.
func ticked(t *testing.T, was, is api.Db, n int) {
	t.Helper()
	want := was
	want.L = nil
	for _, p := range was.L {
		m := memb.Tick(p.M, n)
		if memb.Some(m) {
			want.L = append(want.L, api.Place{Port: p.Port, V1: max(0, p.V1-n), V2: max(0, p.V2-n), M: m})
		}
	}
	if !same(is, want) || !Right(is) {
		t.Errorf("Tick(%v, %d): %v, not %v", was, n, is, want)
	}
}

// TestExample: the example of the chapter.
func TestExample(t *testing.T) {
	d, e := New(api.Timing{Keep: 10, Last: 2}, 1)
	if e != 0 {
		t.Fatal(e)
	}
	d, q, n := Hear(d, 3, api.Igmp{Kind: 22, Group: 4009820675})
	if len(q) != 0 || n != 0 || len(d.L) != 1 || d.L[0].Port != 3 || d.L[0].V2 != 10 || d.L[0].V1 != 0 {
		t.Errorf("%v %v %d", d, q, n)
	}
	for _, src := range []api.Addr{0, 1, 5, greatest} {
		if !slices.Equal(Ports(d, 4009820675, src), []int{3}) || !slices.Equal(Ports(Tick(d, 9), 4009820675, src), []int{3}) || len(Ports(Tick(d, 10), 4009820675, src)) != 0 {
			t.Errorf("%v: not %d for 10", d, src)
		}
	}
}

// roomy is a database with room behind its places, and behind their sources, in which something stands.
func roomy() api.Db {
	l := []api.Place{
		of(least, in(1, held(2, 3), held(4, 1), held(6, 9), held(55, 55), held(66, 66))),
		old(0, 3, ex(1, 3, held(2, 0), held(4, 1), held(6, 9), held(55, 55))),
		old(4, 0, ex(2, 3, held(2, 0), held(4, 1), held(6, 9), held(55, 55), held(77, 77))),
		of(most, in(2, held(2, 9), held(4, 9), held(6, 1), held(55, 55))),
		ex(88, 88),
		ex(99, 99),
	}
	for i := range l[:4] {
		l[i].M.Srcs = l[i].M.Srcs[:3]
	}
	return base(5, l...)
}

// cut is a database without what stands behind its places.
func cut(d api.Db) api.Db {
	d.L = d.L[:4]
	return d
}

// heardOf are messages of the roomy database, their sources with room behind them.
func heardOf() []api.Igmp {
	row := []api.Addr{6, 2, 4, 2, 9, 88, 99}[:5]
	l := []api.Igmp{said(api.Query), said(api.ReportV1), said(api.ReportV2), said(api.Leave), v3()}
	for _, kind := range types {
		for _, g := range []api.Addr{least, group, group + 1, most} {
			l = append(l, v3(recOf(g, kind, slices.Clone(row)...), recOf(g, api.ToIn, slices.Clone(row)[:1]...), recOf(least, kind, from(200, 64)...)))
			l = append(l, api.Igmp{Kind: api.Leave, Group: g}, api.Igmp{Kind: api.ReportV1, Group: g})
		}
	}
	return l
}

// answers are what the calls answer: databases, and rows.
func answers(d api.Db, l []api.Igmp) ([]api.Db, [][]api.PortAsk, [][]int) {
	var ds []api.Db
	var asked [][]api.PortAsk
	var ports [][]int
	for _, m := range l {
		for _, port := range []int{-1, 0, 1, 2, 63, 64} {
			is, q, _ := Hear(d, port, m)
			ds, asked = append(ds, is), append(asked, q)
		}
	}
	for _, n := range []int{-1, 0, 1, 3, 20} {
		ds = append(ds, Tick(d, n))
	}
	for _, src := range []api.Addr{0, 2, 4, 6} {
		ports = append(ports, Ports(d, group, src), Ports(d, least, src))
	}
	return ds, asked, ports
}

// mark writes into all that these have, and have room for, each its own number.
func mark(ds []api.Db, asked [][]api.PortAsk, ports [][]int) {
	n := 0
	for _, d := range ds {
		for i := range d.L {
			l := d.L[i].M.Srcs[:cap(d.L[i].M.Srcs)]
			n++
			for j := range l {
				l[j].Left = n
			}
		}
		n++
		l := d.L[:cap(d.L)]
		for i := range l {
			l[i].Port = n
		}
	}
	for _, q := range asked {
		for i := range q {
			l := q[i].Ask.Srcs[:cap(q[i].Ask.Srcs)]
			n++
			for j := range l {
				l[j] = api.Addr(n)
			}
		}
		n++
		l := q[:cap(q)]
		for i := range l {
			l[i].Port = n
		}
	}
	for _, l := range ports {
		n++
		l = l[:cap(l)]
		for i := range l {
			l[i] = n
		}
	}
}

// marks are how many lists hold anything but one number each: those share.
func marks(ds []api.Db, asked [][]api.PortAsk, ports [][]int) int {
	shared := 0
	seen := map[int]bool{}
	one := func(l []int) {
		if len(l) == 0 {
			return
		}
		if seen[l[0]] || slices.ContainsFunc(l, func(n int) bool { return n != l[0] }) {
			shared++
		}
		seen[l[0]] = true
	}
	for _, d := range ds {
		var of []int
		for _, p := range d.L {
			var l []int
			for _, s := range p.M.Srcs {
				l = append(l, s.Left)
			}
			one(l)
			of = append(of, p.Port)
		}
		one(of)
	}
	for _, q := range asked {
		var of []int
		for _, a := range q {
			var l []int
			for _, s := range a.Ask.Srcs {
				l = append(l, int(s))
			}
			one(l)
			of = append(of, a.Port)
		}
		one(of)
	}
	for _, l := range ports {
		one(l)
	}
	return shared
}

// TestApart: what is handed in stays as it is, and so does what stands behind it; what comes out is nobody else's; the same is answered again (R3, R4).
func TestApart(t *testing.T) {
	d, l := roomy(), heardOf()
	asGiven := fmt.Sprint(d, l)
	ds, asked, ports := answers(cut(d), l)
	told := fmt.Sprint(ds, asked, ports)
	again, more, rest := answers(cut(d), l)
	if fmt.Sprint(again, more, rest) != told {
		t.Error("not the same again")
	}
	mark(ds, asked, ports)
	room := func(d api.Db) string {
		s := ""
		for _, p := range d.L {
			s += fmt.Sprint(p.M.Srcs[:cap(p.M.Srcs)])
		}
		return s
	}
	if fmt.Sprint(d, l) != asGiven || room(d) != room(roomy()) {
		t.Errorf("what is handed in was written into: %v %v", d, l)
	}
	mark([]api.Db{d}, nil, nil)
	for _, m := range l {
		for _, r := range m.Recs {
			clear(r.Srcs[:cap(r.Srcs)])
		}
		clear(m.Recs)
	}
	if fmt.Sprint(again, more, rest) != told {
		t.Error("what came out changes with what was handed in, or with what else came out")
	}
}

// TestNoneShared: no two lists that come out share anything (R3).
func TestNoneShared(t *testing.T) {
	ds, asked, ports := answers(cut(roomy()), heardOf())
	mark(ds, asked, ports)
	if n := marks(ds, asked, ports); n != 0 {
		t.Errorf("%d lists share", n)
	}
}

// TestAnyArguments: of databases, messages and times that aren't right every call ends, too (R1).
func TestAnyArguments(t *testing.T) {
	messages := []api.Igmp{{}, {Kind: 255, Group: group}, said(api.ReportV1), said(api.ReportV2), said(api.Leave), {Kind: api.ReportV1}, {Kind: api.Leave, Group: greatest}, {Kind: api.ReportV3, Group: group}}
	for kind := range byte(8) {
		messages = append(messages, v3(rec(kind)), v3(rec(kind, 2, 1, 1)), v3(recOf(0, kind, from(1, 70)...)))
	}
	for _, d := range slices.Concat(wrongs(), unlike()) {
		for _, m := range messages {
			for _, port := range []int{math.MinInt, -1, 0, 3, 63, 64, math.MaxInt} {
				Hear(d, port, m)
			}
		}
		for _, n := range []int{math.MinInt, -1, 0, 1, math.MaxInt} {
			Tick(d, n)
		}
		Right(d)
		Wants(d, 3, group, 1)
		Ports(d, group, 1)
	}
}
