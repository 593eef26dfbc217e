package igmp

import (
	"bytes"
	"encoding/binary"
	"reflect"
	"slices"
	"strings"
	"testing"

	"stolon/api"
)

// asked is a group that is asked about.
const asked api.Addr = 0xef010203

// known are right messages with their bytes, worked out by hand.
var known = []struct {
	m api.Igmp
	b []byte
}{
	{api.Igmp{Kind: api.Query, Version: 1}, []byte{17, 0, 238, 255, 0, 0, 0, 0}},
	{api.Igmp{Kind: api.Query, Version: 2, Code: 1}, []byte{17, 1, 238, 254, 0, 0, 0, 0}},
	{api.Igmp{Kind: api.Query, Version: 2, Code: 100}, []byte{17, 100, 238, 155, 0, 0, 0, 0}},
	{api.Igmp{Kind: api.Query, Version: 2, Code: 255, Group: 0xefffffff}, []byte{17, 255, 254, 0, 239, 255, 255, 255}},
	{api.Igmp{Kind: api.Query, Version: 2, Code: 10, Group: 0xe0000100}, []byte{17, 10, 13, 245, 224, 0, 1, 0}},
	{api.Igmp{Kind: api.Query, Version: 3}, []byte{17, 0, 238, 255, 0, 0, 0, 0, 0, 0, 0, 0}},
	{api.Igmp{Kind: api.Query, Version: 3, Group: asked}, []byte{17, 0, 253, 250, 239, 1, 2, 3, 0, 0, 0, 0}},
	{api.Igmp{Kind: api.Query, Version: 3, Code: 20, Robust: 7, Every: 20}, []byte{17, 20, 231, 215, 0, 0, 0, 0, 7, 20, 0, 0}},
	{
		api.Igmp{Kind: api.Query, Version: 3, Code: 10, Group: asked, Quiet: true, Robust: 2, Every: 125, Srcs: []api.Addr{0x0a000001}},
		[]byte{17, 10, 233, 113, 239, 1, 2, 3, 10, 125, 0, 1, 10, 0, 0, 1},
	},
	// sources may be any addresses, in any order
	{
		api.Igmp{Kind: api.Query, Version: 3, Code: 255, Group: asked, Quiet: true, Robust: 7, Every: 255, Srcs: []api.Addr{0xffffffff, 0}},
		[]byte{17, 255, 236, 250, 239, 1, 2, 3, 15, 255, 0, 2, 255, 255, 255, 255, 0, 0, 0, 0},
	},
	{api.Igmp{Kind: api.ReportV1, Group: asked}, []byte{18, 0, 252, 250, 239, 1, 2, 3}},
	{api.Igmp{Kind: api.ReportV2, Group: asked}, []byte{22, 0, 248, 250, 239, 1, 2, 3}},
	{api.Igmp{Kind: api.Leave, Group: asked}, []byte{23, 0, 247, 250, 239, 1, 2, 3}},
	// a sum of 0, and those beside it
	{api.Igmp{Kind: api.ReportV1, Group: 0xe90004fe}, []byte{18, 0, 0, 1, 233, 0, 4, 254}},
	{api.Igmp{Kind: api.ReportV1, Group: 0xe90004ff}, []byte{18, 0, 0, 0, 233, 0, 4, 255}},
	{api.Igmp{Kind: api.ReportV1, Group: 0xe9000500}, []byte{18, 0, 255, 254, 233, 0, 5, 0}},
	{api.Igmp{Kind: api.ReportV3}, []byte{34, 0, 221, 255, 0, 0, 0, 0}},
	{
		api.Igmp{Kind: api.ReportV3, Recs: []api.Record{{Type: api.ToEx, Group: asked}}},
		[]byte{34, 0, 232, 249, 0, 0, 0, 1, 4, 0, 0, 0, 239, 1, 2, 3},
	},
	{
		api.Igmp{Kind: api.ReportV3, Recs: []api.Record{
			{Type: api.IsIn, Group: asked, Srcs: []api.Addr{0x0a000001, 0x0a000002}},
			{Type: api.Block, Group: 0xe0000100, Srcs: []api.Addr{0xffffffff}},
		}},
		[]byte{34, 0, 240, 241, 0, 0, 0, 2, 1, 0, 0, 2, 239, 1, 2, 3, 10, 0, 0, 1, 10, 0, 0, 2, 6, 0, 0, 1, 224, 0, 1, 0, 255, 255, 255, 255},
	},
}

// groups are addresses at the edges, and whether each is asked about.
var groups = map[api.Addr]bool{
	0: false, 1: false, 0x0a000001: false, 0xdfffffff: false,
	0xe0000000: false, 0xe0000001: false, 0xe00000ff: false,
	0xe0000100: true, asked: true, 0xefffffff: true,
	0xf0000000: false, 0xffffffff: false,
}

// some are n addresses of all kinds.
func some(n int) []api.Addr {
	l := make([]api.Addr, n)
	for i := range l {
		l[i] = api.Addr(i*i*0x01234567 - i*0x00fedcba + 0xfffffff0)
	}
	return l
}

// records are n records of all kinds, with none up to three sources.
func records(n int) []api.Record {
	l := make([]api.Record, n)
	for i := range l {
		l[i] = api.Record{Type: byte(i%6 + 1), Group: asked + api.Addr(i*257), Srcs: some(i % 4)}
	}
	return l
}

// rights are right messages: those that are known, and greater ones.
func rights() []api.Igmp {
	var l []api.Igmp
	for _, x := range known {
		l = append(l, x.m)
	}
	for _, n := range []int{1, 2, 63, 64} {
		l = append(l, api.Igmp{Kind: api.Query, Version: 3, Group: asked, Robust: 2, Srcs: some(n)})
		l = append(l, api.Igmp{Kind: api.ReportV3, Recs: []api.Record{{Type: api.Allow, Group: asked, Srcs: some(n)}}})
	}
	for _, n := range []int{3, 31, 32} {
		l = append(l, api.Igmp{Kind: api.ReportV3, Recs: records(n)})
	}
	full := api.Igmp{Kind: api.ReportV3, Recs: records(32)}
	for i := range full.Recs {
		full.Recs[i].Srcs = some(64)
	}
	return append(l, full)
}

// wrongs are messages near those, none of them right.
func wrongs() []api.Igmp {
	var l []api.Igmp
	for _, m := range rights() {
		for _, f := range []func(*api.Igmp){
			func(m *api.Igmp) { m.Kind = 0 },
			func(m *api.Igmp) { m.Kind ^= 128 },
			func(m *api.Igmp) { m.Version = -m.Version - 1 },
			func(m *api.Igmp) { m.Version += 4 },
			func(m *api.Igmp) { m.Version += 256 },
			func(m *api.Igmp) { m.Version += 1 << 32 },
			func(m *api.Igmp) { m.Group = 0xe0000001 },
			func(m *api.Igmp) { m.Group = 0x0a000001 },
			func(m *api.Igmp) { m.Robust |= 8 },
			func(m *api.Igmp) { m.Robust |= 128 },
			func(m *api.Igmp) { m.Srcs = some(65) },
			func(m *api.Igmp) { m.Srcs = some(1000) },
			func(m *api.Igmp) { m.Recs = append(slices.Clone(m.Recs), api.Record{}) },
			func(m *api.Igmp) { m.Recs = append(slices.Clone(m.Recs), api.Record{Type: 7, Group: asked}) },
			func(m *api.Igmp) { m.Recs = append([]api.Record{{Type: 1, Group: 0xe0000001}}, m.Recs...) },
			func(m *api.Igmp) { m.Recs = records(33) },
			func(m *api.Igmp) { m.Recs = records(1000) },
			func(m *api.Igmp) { m.Recs = []api.Record{{Type: 1, Group: asked, Srcs: some(65)}} },
		} {
			w := m
			f(&w)
			l = append(l, w)
		}
	}
	return l
}

// isRight tells whether a message is right, in another way: by the names of what it has.
func isRight(m api.Igmp) bool {
	names, so := "", false
	isAsked := func(g api.Addr) bool { return g>>28 == 14 && g>>8 != 0xe00000 }
	mayAsk := m.Group == 0 || isAsked(m.Group)
	switch {
	case m.Kind == 17 && m.Version == 1:
		names, so = "Kind Version", true
	case m.Kind == 17 && m.Version == 2:
		names, so = "Kind Version Code Group", m.Code != 0 && mayAsk
	case m.Kind == 17 && m.Version == 3:
		names, so = "Kind Version Code Group Quiet Robust Every", mayAsk && m.Robust>>3 == 0
		if m.Group != 0 && len(m.Srcs) <= 64 {
			names += " Srcs"
		}
	case m.Kind == 18 || m.Kind == 22 || m.Kind == 23:
		names, so = "Kind Group", isAsked(m.Group)
	case m.Kind == 34:
		names, so = "Kind Recs", len(m.Recs) <= 32
		for _, x := range m.Recs {
			so = so && x.Type >= 1 && x.Type <= 6 && isAsked(x.Group) && len(x.Srcs) <= 64
		}
	}
	v := reflect.ValueOf(m)
	for i := range v.NumField() {
		f := v.Field(i)
		none := f.IsZero() || f.Kind() == reflect.Slice && f.Len() == 0
		so = so && (none || slices.Contains(strings.Fields(names), v.Type().Field(i).Name))
	}
	return so
}

// told is a message's bytes, made one by one, with its sum.
func told(m api.Igmp) []byte {
	b := []byte{m.Kind, m.Code, 0, 0}
	if m.Kind == api.ReportV3 {
		b = binary.BigEndian.AppendUint32(b, uint32(len(m.Recs)))
		for _, x := range m.Recs {
			b = append(b, x.Type, 0, 0, byte(len(x.Srcs)))
			for _, a := range append([]api.Addr{x.Group}, x.Srcs...) {
				b = binary.BigEndian.AppendUint32(b, uint32(a))
			}
		}
		return mend(b)
	}
	b = binary.BigEndian.AppendUint32(b, uint32(m.Group))
	if m.Version != 3 {
		return mend(b)
	}
	bits := m.Robust
	if m.Quiet {
		bits += 8
	}
	b = append(b, bits, m.Every, 0, byte(len(m.Srcs)))
	for _, a := range m.Srcs {
		b = binary.BigEndian.AppendUint32(b, uint32(a))
	}
	return mend(b)
}

// joined is what the words of bytes come to, reckoned by what a division leaves.
func joined(b []byte) int {
	n := 0
	for i, x := range b {
		n += int(x) << (8 * (1 - i%2))
	}
	if n > 0 {
		n = (n-1)%65535 + 1
	}
	return n
}

// mend puts the right sum into bytes, whatever stands there.
func mend(b []byte) []byte {
	m := bytes.Clone(b)
	m[2], m[3] = 0, 0
	binary.BigEndian.PutUint16(m[2:], uint16(65535-joined(m)))
	return m
}

// look is what Decode should answer, by places in b.
func look(b []byte) (api.Igmp, api.Errno) {
	none := api.Igmp{}
	if len(b) < 8 {
		return none, api.ErrMore
	}
	if joined(b) != 65535 {
		return none, api.ErrSum
	}
	word := func(at int) api.Addr { return api.Addr(binary.BigEndian.Uint32(b[at:])) }
	half := func(at int) int { return int(binary.BigEndian.Uint16(b[at:])) }
	words := func(at, n int) []api.Addr {
		l := make([]api.Addr, n)
		for i := range l {
			l[i] = word(at + 4*i)
		}
		return l
	}
	m := api.Igmp{Kind: b[0], Code: b[1]}
	end, zero := 8, 0
	switch m.Kind {
	default:
		return none, api.ErrForm
	case 18, 22, 23:
		m.Group = word(4)
	case 34:
		zero = half(4)
		for range half(6) {
			if len(b) < end+8 || len(b) < end+8+4*half(end+2) {
				return none, api.ErrMore
			}
			n := half(end + 2)
			m.Recs = append(m.Recs, api.Record{Type: b[end], Group: word(end + 4), Srcs: words(end+8, n)})
			end += 8 + 4*n
		}
	case 17:
		if len(b) == 8 && b[1] == 0 {
			m.Version = 1
			break
		}
		m.Version, m.Group = 2, word(4)
		if len(b) == 8 {
			break
		}
		if len(b) < 12 || len(b) < 12+4*half(10) {
			return none, api.ErrMore
		}
		end = 12 + 4*half(10)
		m.Version, m.Quiet, m.Robust, m.Every, m.Srcs = 3, b[8]>>3&1 == 1, b[8]&7, b[9], words(12, half(10))
	}
	if len(b) > end || zero != 0 || !isRight(m) {
		return none, api.ErrForm
	}
	return m, api.OK
}

// alike are two messages that are the same in all, where empty lists are.
func alike(a, b api.Igmp) bool {
	plain := func(m api.Igmp) api.Igmp {
		m.Srcs = append([]api.Addr{}, m.Srcs...)
		m.Recs = append([]api.Record{}, m.Recs...)
		for i := range m.Recs {
			m.Recs[i].Srcs = append([]api.Addr{}, m.Recs[i].Srcs...)
		}
		return m
	}
	return reflect.DeepEqual(plain(a), plain(b))
}

// comes holds the answer of Decode at b.
func comes(t *testing.T, b []byte, m0 api.Igmp, e0 api.Errno) {
	t.Helper()
	if m, e := Decode(b); e != e0 || !alike(m, m0) {
		t.Errorf("Decode(%v): %v %d, not %v %d", b, m, e, m0, e0)
	}
}

// refused holds the answer of Decode at b against an error.
func refused(t *testing.T, b []byte, e0 api.Errno) {
	t.Helper()
	comes(t, b, api.Igmp{}, e0)
}

// holds holds the answers of Right and Encode at m against whether it is right.
func holds(t *testing.T, m api.Igmp, right bool) {
	t.Helper()
	if Right(m) != right {
		t.Errorf("Right(%v): %v", m, !right)
	}
	b, e := Encode(m)
	if right && (e != api.OK || !bytes.Equal(b, told(m))) {
		t.Errorf("Encode(%v): %v %d, not %v", m, b, e, told(m))
	}
	if !right && (e != api.ErrArg || len(b) != 0) {
		t.Errorf("Encode(%v): %v %d, not %d", m, b, e, api.ErrArg)
	}
}

// TestEncodeP5_1: bytes that are known.
func TestEncodeP5_1(t *testing.T) {
	for _, x := range known {
		if b, e := Encode(x.m); !bytes.Equal(b, x.b) || e != api.OK || !Right(x.m) {
			t.Errorf("Encode(%v): %v %d, not %v", x.m, b, e, x.b)
		}
	}
}

// TestRightP5_1: messages that are right, and such as are near them and aren't.
func TestRightP5_1(t *testing.T) {
	for _, m := range rights() {
		holds(t, m, true)
	}
	for _, m := range wrongs() {
		holds(t, m, false)
	}
	holds(t, api.Igmp{}, false)
	holds(t, api.Igmp{Version: 3, Group: asked}, false)
}

// TestKindsP5_1: there are five kinds.
func TestKindsP5_1(t *testing.T) {
	for n := range 256 {
		k := byte(n)
		holds(t, api.Igmp{Kind: k, Group: asked}, k == 18 || k == 22 || k == 23)
		holds(t, api.Igmp{Kind: k}, k == 34)
		for v := 1; v <= 3; v++ {
			holds(t, api.Igmp{Kind: k, Version: v, Code: 1}, k == 17 && v != 1)
			holds(t, api.Igmp{Kind: k, Version: v}, k == 17 && v != 2)
		}
	}
}

// TestVersionsP5_1: a query has one of three, any other message none.
func TestVersionsP5_1(t *testing.T) {
	for _, v := range []int{-1 << 63, -3, -2, -1, 0, 1, 2, 3, 4, 5, 255, 256, 257, 258, 259, 1<<32 + 1, 1<<32 + 3, 1<<63 - 1} {
		holds(t, api.Igmp{Kind: api.Query, Version: v}, v == 1 || v == 3)
		holds(t, api.Igmp{Kind: api.Query, Version: v, Code: 1, Group: asked}, v == 2 || v == 3)
		holds(t, api.Igmp{Kind: api.ReportV3, Version: v}, v == 0)
		for _, k := range []byte{api.ReportV1, api.ReportV2, api.Leave} {
			holds(t, api.Igmp{Kind: k, Version: v, Group: asked}, v == 0)
		}
	}
}

// TestCodesP5_1: version 2 has one above 0, version 3 any, all else none.
func TestCodesP5_1(t *testing.T) {
	for n := range 256 {
		c := byte(n)
		holds(t, api.Igmp{Kind: api.Query, Version: 1, Code: c}, c == 0)
		holds(t, api.Igmp{Kind: api.Query, Version: 2, Code: c}, c > 0)
		holds(t, api.Igmp{Kind: api.Query, Version: 2, Code: c, Group: asked}, c > 0)
		holds(t, api.Igmp{Kind: api.Query, Version: 3, Code: c}, true)
		holds(t, api.Igmp{Kind: api.ReportV3, Code: c}, c == 0)
		for _, k := range []byte{api.ReportV1, api.ReportV2, api.Leave} {
			holds(t, api.Igmp{Kind: k, Code: c, Group: asked}, c == 0)
		}
	}
}

// TestGroupsP5_1: none, one that is asked about, and others.
func TestGroupsP5_1(t *testing.T) {
	for g, is := range groups {
		holds(t, api.Igmp{Kind: api.Query, Version: 1, Group: g}, g == 0)
		holds(t, api.Igmp{Kind: api.Query, Version: 2, Code: 1, Group: g}, g == 0 || is)
		holds(t, api.Igmp{Kind: api.Query, Version: 3, Group: g}, g == 0 || is)
		holds(t, api.Igmp{Kind: api.Query, Version: 3, Group: g, Srcs: []api.Addr{5}}, is)
		holds(t, api.Igmp{Kind: api.ReportV3, Group: g}, g == 0)
		for _, k := range []byte{api.ReportV1, api.ReportV2, api.Leave} {
			holds(t, api.Igmp{Kind: k, Group: g}, is)
		}
		for i := range 32 {
			l := records(32)
			l[i].Group = g
			holds(t, api.Igmp{Kind: api.ReportV3, Recs: l}, is)
		}
	}
}

// TestBesideP5_1: Quiet, Robust and Every are of version 3 alone, and Robust is at most 7.
func TestBesideP5_1(t *testing.T) {
	for n := range 256 {
		x := byte(n)
		holds(t, api.Igmp{Kind: api.Query, Version: 3, Robust: x}, x <= 7)
		holds(t, api.Igmp{Kind: api.Query, Version: 3, Quiet: true, Robust: x}, x <= 7)
		holds(t, api.Igmp{Kind: api.Query, Version: 3, Every: x}, true)
		for _, m := range rights() {
			if m.Version != 3 && x > 0 {
				r, e, q := m, m, m
				r.Robust, e.Every, q.Quiet = x, x, true
				holds(t, r, false)
				holds(t, e, false)
				holds(t, q, false)
			}
		}
	}
}

// TestSrcsP5_1: at most 64, of a query with a group, or a record, alone.
func TestSrcsP5_1(t *testing.T) {
	for _, n := range []int{0, 1, 2, 63, 64, 65, 66, 128, 255, 256, 257, 65535, 65536, 65537} {
		l := some(n)
		holds(t, api.Igmp{Kind: api.Query, Version: 3, Group: asked, Srcs: l}, n <= 64)
		holds(t, api.Igmp{Kind: api.Query, Version: 3, Srcs: l}, n == 0)
		holds(t, api.Igmp{Kind: api.Query, Version: 2, Code: 1, Group: asked, Srcs: l}, n == 0)
		holds(t, api.Igmp{Kind: api.Query, Version: 1, Srcs: l}, n == 0)
		holds(t, api.Igmp{Kind: api.ReportV3, Srcs: l}, n == 0)
		for _, k := range []byte{api.ReportV1, api.ReportV2, api.Leave} {
			holds(t, api.Igmp{Kind: k, Group: asked, Srcs: l}, n == 0)
		}
		for i := range 32 {
			r := records(32)
			r[i].Srcs = l
			holds(t, api.Igmp{Kind: api.ReportV3, Recs: r}, n <= 64)
		}
	}
}

// TestRecsP5_1: at most 32, of a report of version 3 alone.
func TestRecsP5_1(t *testing.T) {
	for _, n := range []int{0, 1, 2, 31, 32, 33, 34, 64, 255, 256, 257, 65535, 65536, 65537} {
		l := records(n)
		holds(t, api.Igmp{Kind: api.ReportV3, Recs: l}, n <= 32)
		for v := 1; v <= 3; v++ {
			holds(t, api.Igmp{Kind: api.Query, Version: v, Code: byte(v - 1), Recs: l}, n == 0)
		}
		for _, k := range []byte{api.ReportV1, api.ReportV2, api.Leave} {
			holds(t, api.Igmp{Kind: k, Group: asked, Recs: l}, n == 0)
		}
	}
}

// TestTypesP5_1: a record's type is 1 to 6.
func TestTypesP5_1(t *testing.T) {
	for n := range 256 {
		for i := range 32 {
			l := records(32)
			l[i].Type = byte(n)
			holds(t, api.Igmp{Kind: api.ReportV3, Recs: l}, n >= 1 && n <= 6)
		}
		holds(t, api.Igmp{Kind: api.ReportV3, Recs: []api.Record{{Type: byte(n), Group: asked}}}, n >= 1 && n <= 6)
	}
}

// others are messages that are not the same as m, each by one thing.
func others(m api.Igmp) []api.Igmp {
	var l []api.Igmp
	add := func(f func(*api.Igmp)) {
		o := m
		o.Srcs = slices.Clone(m.Srcs)
		o.Recs = slices.Clone(m.Recs)
		for i := range o.Recs {
			o.Recs[i].Srcs = slices.Clone(o.Recs[i].Srcs)
		}
		f(&o)
		l = append(l, o)
	}
	add(func(o *api.Igmp) { o.Kind++ })
	add(func(o *api.Igmp) { o.Kind ^= 128 })
	add(func(o *api.Igmp) { o.Version++ })
	add(func(o *api.Igmp) { o.Version += 256 })
	add(func(o *api.Igmp) { o.Version += 1 << 32 })
	add(func(o *api.Igmp) { o.Code++ })
	add(func(o *api.Igmp) { o.Group ^= 1 })
	add(func(o *api.Igmp) { o.Group ^= 1 << 31 })
	add(func(o *api.Igmp) { o.Quiet = !o.Quiet })
	add(func(o *api.Igmp) { o.Robust ^= 8 })
	add(func(o *api.Igmp) { o.Every++ })
	add(func(o *api.Igmp) { o.Srcs = append(o.Srcs, 0) })
	add(func(o *api.Igmp) { o.Recs = append(o.Recs, api.Record{}) })
	for i := range m.Srcs {
		add(func(o *api.Igmp) { o.Srcs[i] ^= 1 << 24 })
		add(func(o *api.Igmp) { o.Srcs = slices.Delete(o.Srcs, i, i+1) })
	}
	for i := range m.Recs {
		add(func(o *api.Igmp) { o.Recs[i].Type++ })
		add(func(o *api.Igmp) { o.Recs[i].Group ^= 1 })
		add(func(o *api.Igmp) { o.Recs[i].Srcs = append(o.Recs[i].Srcs, 0) })
		add(func(o *api.Igmp) { o.Recs = slices.Delete(o.Recs, i, i+1) })
		for j := range m.Recs[i].Srcs {
			add(func(o *api.Igmp) { o.Recs[i].Srcs[j] ^= 1 })
			add(func(o *api.Igmp) { o.Recs[i].Srcs = o.Recs[i].Srcs[:j] })
		}
	}
	return l
}

// TestSameP5_1: two messages are the same if all of them is, be they right or not.
func TestSameP5_1(t *testing.T) {
	all := append(rights(), wrongs()...)
	all = append(all, api.Igmp{}, api.Igmp{Kind: 9, Srcs: some(3), Recs: records(3), Version: -1})
	for _, m := range all {
		if !Same(m, m) {
			t.Errorf("%v isn't the same as itself", m)
		}
	}
	for _, m := range append(rights(), all[len(all)-2:]...) {
		for _, o := range others(m) {
			if Same(m, o) || Same(o, m) {
				t.Errorf("%v is the same as %v", m, o)
			}
		}
	}
	for i, m := range rights() {
		for j, o := range rights() {
			if Same(m, o) != (i == j) {
				t.Errorf("Same(%v, %v): %v", m, o, i != j)
			}
		}
	}
}

// TestSameOrderP5_1: what is in another order isn't the same.
func TestSameOrderP5_1(t *testing.T) {
	a := api.Igmp{Kind: api.ReportV3, Srcs: []api.Addr{1, 2}, Recs: records(2)}
	b, c := a, a
	b.Srcs = []api.Addr{2, 1}
	c.Recs = []api.Record{a.Recs[1], a.Recs[0]}
	if Same(a, b) || Same(b, a) || Same(a, c) || Same(c, a) {
		t.Error("the same, in another order")
	}
}

// TestSameEmptyP5_1: a list without elements may be nil.
func TestSameEmptyP5_1(t *testing.T) {
	a := api.Igmp{Kind: api.ReportV3, Recs: []api.Record{{Type: 1, Group: asked}}}
	b := api.Igmp{Kind: api.ReportV3, Srcs: []api.Addr{}, Recs: []api.Record{{Type: 1, Group: asked, Srcs: []api.Addr{}}}}
	if !Same(a, b) || !Same(b, a) || !Same(api.Igmp{}, api.Igmp{Srcs: []api.Addr{}, Recs: []api.Record{}}) {
		t.Error("empty lists aren't the same")
	}
	holds(t, a, true)
	holds(t, b, true)
	for _, m := range rights() {
		if len(m.Srcs) == 0 {
			m.Srcs = make([]api.Addr, 0, 3)
		}
		if len(m.Recs) == 0 {
			m.Recs = make([]api.Record, 0, 3)
		}
		holds(t, m, true)
	}
}

// TestDecodeP5_2: bytes that are known, and those of greater messages.
func TestDecodeP5_2(t *testing.T) {
	for _, x := range known {
		comes(t, x.b, x.m, api.OK)
	}
	for _, m := range rights() {
		comes(t, told(m), m, api.OK)
	}
}

// TestDecodeLessP5_2: bytes that end ahead of their end: up to seven by that alone, others if they are whole.
func TestDecodeLessP5_2(t *testing.T) {
	refused(t, nil, api.ErrMore)
	for _, m := range rights() {
		b := told(m)
		for n := range b {
			if n < 8 {
				refused(t, b[:n], api.ErrMore)
				continue
			}
			cut := mend(b[:n])
			m0, e0 := look(cut)
			if n > 8 && e0 != api.ErrMore {
				t.Fatalf("look(%v): %v %d", cut, m0, e0)
			}
			comes(t, cut, m0, e0)
			if joined(b[:n]) != 65535 {
				refused(t, b[:n], api.ErrSum)
			}
		}
	}
	for n := range 8 {
		refused(t, make([]byte, n), api.ErrMore)
		refused(t, bytes.Repeat([]byte{255}, n), api.ErrMore)
		refused(t, []byte{34, 0, 221, 255, 0, 0, 0, 0}[:n], api.ErrMore)
	}
}

// TestDecodeQueryP5_2: how many bytes there are, and the code, tell a query's version.
func TestDecodeQueryP5_2(t *testing.T) {
	for code := range 256 {
		c := byte(code)
		b := []byte{17, c, 0, 0, 239, 1, 2, 3, 2, 9, 0, 0, 0, 0, 0, 0}
		two := api.Igmp{Kind: api.Query, Version: 2, Code: c, Group: asked}
		if c == 0 {
			two = api.Igmp{Kind: api.Query, Version: 1}
		}
		comes(t, mend(b[:8]), two, api.OK)
		for n := 9; n < 12; n++ {
			refused(t, mend(b[:n]), api.ErrMore)
		}
		comes(t, mend(b[:12]), api.Igmp{Kind: api.Query, Version: 3, Code: c, Group: asked, Robust: 2, Every: 9}, api.OK)
		for n := 13; n <= 16; n++ {
			refused(t, mend(b[:n]), api.ErrForm)
		}
		b[11] = 1
		for n := 9; n < 16; n++ {
			refused(t, mend(b[:n]), api.ErrMore)
		}
		one := api.Igmp{Kind: api.Query, Version: 3, Code: c, Group: asked, Robust: 2, Every: 9, Srcs: []api.Addr{0}}
		comes(t, mend(b), one, api.OK)
	}
}

// TestDecodeGroupsP5_2: the group of version 1 is let go; all others have to be right.
func TestDecodeGroupsP5_2(t *testing.T) {
	for g, is := range groups {
		b := binary.BigEndian.AppendUint32([]byte{17, 0, 0, 0}, uint32(g))
		comes(t, mend(b), api.Igmp{Kind: api.Query, Version: 1}, api.OK)
		if b[1] = 1; g == 0 || is {
			comes(t, mend(b), api.Igmp{Kind: api.Query, Version: 2, Code: 1, Group: g}, api.OK)
		} else {
			refused(t, mend(b), api.ErrForm)
		}
		if b[1] = 0; g == 0 || is {
			comes(t, mend(append(b, 0, 0, 0, 0)), api.Igmp{Kind: api.Query, Version: 3, Group: g}, api.OK)
		} else {
			refused(t, mend(append(b, 0, 0, 0, 0)), api.ErrForm)
		}
		from := mend(append(bytes.Clone(b), 0, 0, 0, 1, 1, 2, 3, 4))
		if is {
			comes(t, from, api.Igmp{Kind: api.Query, Version: 3, Group: g, Srcs: []api.Addr{0x01020304}}, api.OK)
		} else {
			refused(t, from, api.ErrForm)
		}
		for _, k := range []byte{api.ReportV1, api.ReportV2, api.Leave} {
			if b[0] = k; is {
				comes(t, mend(b), api.Igmp{Kind: k, Group: g}, api.OK)
			} else {
				refused(t, mend(b), api.ErrForm)
			}
		}
		r := []byte{34, 0, 0, 0, 0, 0, 0, 1, 1, 0, 0, 0, b[4], b[5], b[6], b[7]}
		if is {
			comes(t, mend(r), api.Igmp{Kind: api.ReportV3, Recs: []api.Record{{Type: 1, Group: g}}}, api.OK)
		} else {
			refused(t, mend(r), api.ErrForm)
		}
	}
}

// TestDecodeLetGoP5_2: the four bits above Robust and Quiet, and the second byte of a record.
func TestDecodeLetGoP5_2(t *testing.T) {
	for n := range 256 {
		x := byte(n)
		m := api.Igmp{Kind: api.Query, Version: 3, Group: asked, Quiet: n/8%2 == 1, Robust: x & 7, Every: 3}
		comes(t, mend([]byte{17, 0, 0, 0, 239, 1, 2, 3, x, 3, 0, 0}), m, api.OK)
		m = api.Igmp{Kind: api.Query, Version: 3, Group: asked, Every: x}
		comes(t, mend([]byte{17, 0, 0, 0, 239, 1, 2, 3, 0, x, 0, 0}), m, api.OK)
		m = api.Igmp{Kind: api.ReportV3, Recs: []api.Record{{Type: 2, Group: asked, Srcs: []api.Addr{7}}, {Type: 3, Group: asked}}}
		b := told(m)
		b[9] = x
		comes(t, mend(b), m, api.OK)
		b[21] = 255 - x
		comes(t, mend(b), m, api.OK)
		// no bytes are behind a record, whatever its second byte says
		refused(t, mend(append(b, 0, 0, 0, 0)), api.ErrForm)
	}
}

// TestDecodeSumP5_2: bytes that aren't whole are refused, but 65535 may stand for 0.
func TestDecodeSumP5_2(t *testing.T) {
	comes(t, []byte{18, 0, 255, 255, 233, 0, 4, 255}, api.Igmp{Kind: api.ReportV1, Group: 0xe90004ff}, api.OK)
	// a source beside which the sum is 0
	b := mend([]byte{17, 9, 0, 0, 239, 1, 2, 3, 2, 9, 0, 1, 1, 2, 0, 0})
	b[14], b[15], b[2], b[3] = b[2], b[3], 0, 0
	m := api.Igmp{Kind: api.Query, Version: 3, Code: 9, Group: asked, Robust: 2, Every: 9, Srcs: []api.Addr{0x01020000 + api.Addr(b[14])<<8 + api.Addr(b[15])}}
	comes(t, b, m, api.OK)
	b[2], b[3] = 255, 255
	comes(t, b, m, api.OK)
	for _, x := range known {
		for s := range 65536 {
			c := bytes.Clone(x.b)
			binary.BigEndian.PutUint16(c[2:], uint16(s))
			m, e := Decode(c)
			if whole := bytes.Equal(c, x.b) || x.b[2]|x.b[3] == 0 && s == 65535; whole && (e != api.OK || !alike(m, x.m)) || !whole && e != api.ErrSum {
				t.Fatalf("Decode(%v): %v %d", c, m, e)
			}
		}
	}
	refused(t, make([]byte, 8), api.ErrSum)
	refused(t, make([]byte, 100), api.ErrSum)
}

// TestDecodeNotNamedP5_2: what has no place in a kind is 0.
func TestDecodeNotNamedP5_2(t *testing.T) {
	for x := 1; x < 256; x++ {
		for _, k := range []byte{api.ReportV1, api.ReportV2, api.Leave} {
			refused(t, mend([]byte{k, byte(x), 0, 0, 239, 1, 2, 3}), api.ErrForm)
		}
		refused(t, mend([]byte{34, byte(x), 0, 0, 0, 0, 0, 0}), api.ErrForm)
		refused(t, mend([]byte{34, 0, 0, 0, byte(x), 0, 0, 0}), api.ErrForm)
		refused(t, mend([]byte{34, 0, 0, 0, 0, byte(x), 0, 0}), api.ErrForm)
		refused(t, mend([]byte{34, 0, 0, 0, 0, byte(x), 0, 1, 1, 0, 0, 0, 239, 1, 2, 3}), api.ErrForm)
	}
	refused(t, mend([]byte{34, 0, 0, 0, 239, 1, 0, 0}), api.ErrForm)
}

// TestDecodeKindsP5_2: a first byte that is no Kind, be there more bytes or not.
func TestDecodeKindsP5_2(t *testing.T) {
	for n := range 256 {
		switch n {
		case 17, 18, 22, 23, 34:
			continue
		}
		for _, x := range known {
			b := bytes.Clone(x.b)
			b[0] = byte(n)
			refused(t, b, api.ErrSum)
			refused(t, mend(b), api.ErrForm)
			refused(t, mend(append(b, 1)), api.ErrForm)
			refused(t, mend(b[:8]), api.ErrForm)
			refused(t, b[:7], api.ErrMore)
		}
	}
}

// TestDecodeMoreBytesP5_2: none may be behind a message's end.
func TestDecodeMoreBytesP5_2(t *testing.T) {
	for _, m := range rights() {
		b := told(m)
		for n := 1; n <= 12; n++ {
			for _, x := range []byte{0, 1, 255} {
				c := mend(append(bytes.Clone(b), bytes.Repeat([]byte{x}, n)...))
				m0, e0 := look(c)
				if m.Kind != api.Query && e0 != api.ErrForm || m.Version == 3 && e0 != api.ErrForm {
					t.Fatalf("look(%v): %v %d", c, m0, e0)
				}
				comes(t, c, m0, e0)
			}
		}
	}
	refused(t, []byte{22, 0, 248, 250, 239, 1, 2, 3, 0}, api.ErrForm)
	refused(t, []byte{22, 0, 248, 250, 239, 1, 2, 3, 1}, api.ErrSum)
}

// TestDecodeManyP5_2: as many sources as a message may have, and records, and more; and where as many aren't there.
func TestDecodeManyP5_2(t *testing.T) {
	for _, n := range []int{0, 1, 63, 64, 65, 66, 255, 256, 257, 65535} {
		q := []byte{17, 0, 0, 0, 239, 1, 2, 3, 0, 0, byte(n >> 8), byte(n)}
		r := []byte{34, 0, 0, 0, 0, 0, 0, 1, 6, 0, byte(n >> 8), byte(n), 239, 1, 2, 3}
		for _, a := range some(n) {
			q = binary.BigEndian.AppendUint32(q, uint32(a))
			r = binary.BigEndian.AppendUint32(r, uint32(a))
		}
		for i := 1; i <= min(4*n, 9); i++ {
			refused(t, mend(q[:len(q)-i]), api.ErrMore)
			refused(t, mend(r[:len(r)-i]), api.ErrMore)
		}
		q, r = mend(q), mend(r)
		if n > 64 {
			refused(t, q, api.ErrForm)
			refused(t, r, api.ErrForm)
			continue
		}
		comes(t, q, api.Igmp{Kind: api.Query, Version: 3, Group: asked, Srcs: some(n)}, api.OK)
		comes(t, r, api.Igmp{Kind: api.ReportV3, Recs: []api.Record{{Type: 6, Group: asked, Srcs: some(n)}}}, api.OK)
	}
	for _, n := range []int{0, 1, 31, 32, 33, 255, 256, 257, 65535} {
		b := []byte{34, 0, 0, 0, 0, 0, byte(n >> 8), byte(n)}
		for range n {
			b = append(b, 5, 0, 0, 0, 239, 1, 2, 3)
		}
		for i := 1; i <= min(8*n, 9); i++ {
			refused(t, mend(b[:len(b)-i]), api.ErrMore)
		}
		m := api.Igmp{Kind: api.ReportV3, Recs: slices.Repeat([]api.Record{{Type: 5, Group: asked}}, n)}
		if n > 32 {
			refused(t, mend(b), api.ErrForm)
			continue
		}
		comes(t, mend(b), m, api.OK)
	}
}

// TestDecodeTypesP5_2: each type, in each place of three.
func TestDecodeTypesP5_2(t *testing.T) {
	for n := range 256 {
		for i := range 3 {
			m := api.Igmp{Kind: api.ReportV3, Recs: records(3)}
			m.Recs[i].Type = byte(n)
			if n >= 1 && n <= 6 {
				comes(t, told(m), m, api.OK)
			} else {
				refused(t, told(m), api.ErrForm)
			}
		}
	}
}

// TestDecodeOrderP5_2: where several things are wrong, the first one that the promise names is told.
func TestDecodeOrderP5_2(t *testing.T) {
	// less than eight bytes, and all else wrong
	refused(t, []byte{19, 9, 9, 9, 9, 9, 9}, api.ErrMore)
	// not whole, and no kind, or ending early, or more bytes
	refused(t, []byte{19, 0, 1, 1, 9, 9, 9, 9}, api.ErrSum)
	refused(t, []byte{17, 0, 1, 1, 9, 9, 9, 9, 9}, api.ErrSum)
	refused(t, []byte{34, 0, 1, 1, 0, 0, 0, 1}, api.ErrSum)
	refused(t, []byte{22, 0, 1, 1, 239, 1, 2, 3, 9}, api.ErrSum)
	// no kind, whatever is behind
	refused(t, mend([]byte{0, 0, 0, 0, 0, 0, 0, 1}), api.ErrForm)
	refused(t, mend([]byte{35, 0, 0, 0, 0, 0, 0, 1}), api.ErrForm)
	refused(t, mend([]byte{16, 0, 0, 0, 0, 0, 0, 0, 9}), api.ErrForm)
	// ending early, and not right
	for _, b := range [][]byte{
		{17, 0, 0, 0, 10, 0, 0, 1, 0, 0, 0},
		{17, 0, 0, 0, 10, 0, 0, 1, 0, 0, 0, 1, 0, 0, 0},
		{17, 0, 0, 0, 0, 0, 0, 0, 0, 0, 0, 1},
		{17, 0, 0, 0, 239, 1, 2, 3, 0, 0, 255, 255},
		{17, 0, 0, 0, 239, 1, 2, 3, 0, 0, 0, 65, 1},
		{34, 1, 0, 0, 0, 0, 0, 1},
		{34, 0, 0, 0, 1, 0, 0, 1},
		{34, 0, 0, 0, 0, 1, 0, 1, 1, 0, 0, 0, 239, 1, 2},
		{34, 0, 0, 0, 0, 0, 255, 255},
		{34, 0, 0, 0, 0, 0, 0, 33, 1, 0, 0, 0, 239, 1, 2, 3},
		{34, 0, 0, 0, 0, 0, 0, 1, 7, 0, 0, 1, 239, 1, 2, 3},
		{34, 0, 0, 0, 0, 0, 0, 1, 0, 0, 0, 1, 10, 0, 0, 1, 9, 9, 9},
		{34, 0, 0, 0, 0, 0, 0, 2, 7, 0, 0, 0, 239, 1, 2, 3},
		{34, 0, 0, 0, 0, 0, 0, 2, 7, 0, 0, 0, 10, 0, 0, 1, 1},
		{34, 0, 0, 0, 0, 0, 0, 1, 1, 0, 255, 255, 239, 1, 2, 3},
		{34, 0, 0, 0, 0, 0, 255, 255, 1, 0, 255, 255, 239, 1, 2, 3, 1},
	} {
		refused(t, mend(b), api.ErrMore)
	}
}

// TestAnyBytesP5_2: bytes that come near a message's, held against what their places say (R1).
func TestAnyBytesP5_2(t *testing.T) {
	seed := uint32(1)
	next := func(n int) int {
		seed = seed*1664525 + 1013904223
		return int(seed>>8) % n
	}
	from := append(rights(), wrongs()...)
	many := map[api.Errno]int{}
	for range 300000 {
		b := told(from[next(len(from))])
		if len(b) > 300 {
			continue
		}
		for range next(3) {
			b[next(len(b))] = byte(next(256) >> (next(2) * 5))
		}
		if next(3) == 0 {
			b = append(b, make([]byte, next(9))...)
		}
		b = b[:len(b)-next(3)*next(5)]
		if len(b) >= 4 && next(8) > 0 {
			b = mend(b)
		}
		m0, e0 := look(b)
		if m, e := Decode(b); e != e0 || !alike(m, m0) {
			t.Fatalf("Decode(%v): %v %d, not %v %d", b, m, e, m0, e0)
		}
		many[e0]++
	}
	for _, e := range []api.Errno{api.OK, api.ErrMore, api.ErrSum, api.ErrForm} {
		if many[e] < 1000 {
			t.Errorf("%d came %d times", e, many[e])
		}
	}
}

// TestSameP5_3: what was told in bytes is the same, and nothing else is told by these.
func TestSameP5_3(t *testing.T) {
	whose := map[string]api.Igmp{}
	for _, r := range rights() {
		for _, m := range append(others(r), r) {
			if Right(m) != isRight(m) {
				t.Errorf("Right(%v): %v", m, Right(m))
			}
			b, e := Encode(m)
			if e != api.OK {
				continue
			}
			back, e := Decode(b)
			if e != api.OK || !Same(back, m) || !Same(m, back) || !alike(back, m) {
				t.Errorf("%v comes back as %v %d", m, back, e)
			}
			if o, had := whose[string(b)]; had && !alike(o, m) {
				t.Errorf("%v and %v are both %v", o, m, b)
			}
			whose[string(b)] = m
		}
	}
	if len(whose) < 1000 {
		t.Errorf("%d messages are told", len(whose))
	}
}

// TestTakenP5_3: what bytes tell is right, and is told again, though what is let go stands as 0 then.
func TestTakenP5_3(t *testing.T) {
	for _, b := range [][]byte{
		{17, 0, 0, 0, 9, 9, 9, 9},
		{17, 7, 0, 0, 239, 1, 2, 3, 0xfa, 9, 0, 1, 0, 0, 0, 1},
		{34, 0, 0, 0, 0, 0, 0, 1, 4, 200, 0, 0, 239, 1, 2, 3},
	} {
		m, e := Decode(mend(b))
		c, e1 := Encode(m)
		if e != api.OK || e1 != api.OK || !Right(m) || !bytes.Equal(c, told(m)) {
			t.Errorf("%v: %v %d, told as %v %d", b, m, e, c, e1)
		}
		if n, e := Decode(c); e != api.OK || !Same(m, n) {
			t.Errorf("%v comes back as %v %d", m, n, e)
		}
	}
}

// TestApart: what is handed in stays as it is, what comes out shares nothing with it, nor one list with another one, and the same is answered again (R3, R4).
func TestApart(t *testing.T) {
	room := []api.Addr{1, 2, 3, 4, 5}
	recs := []api.Record{{Type: 1, Group: asked, Srcs: room[:2]}, {Type: 2, Group: asked, Srcs: room[2:4]}, {Type: 7, Group: 8}}
	m := api.Igmp{Kind: api.ReportV3, Recs: recs[:2]}
	q := api.Igmp{Kind: api.Query, Version: 3, Group: asked, Srcs: room[:2]}
	for range 2 {
		for _, x := range []api.Igmp{m, q} {
			b, e := Encode(x)
			if e != api.OK || !bytes.Equal(b, told(x)) {
				t.Errorf("Encode(%v): %v %d", x, b, e)
			}
			clear(append(b, 99))
			clear(b)
		}
	}
	if !slices.Equal(room, []api.Addr{1, 2, 3, 4, 5}) || recs[2].Type != 7 || recs[2].Group != 8 {
		t.Errorf("after Encode: %v %v", room, recs)
	}
	b := append(told(m), 9, 9, 9, 9)
	kept := bytes.Clone(b)
	for range 2 {
		got, e := Decode(b[:len(b)-4])
		if e != api.OK || !alike(got, m) {
			t.Errorf("Decode(%v): %v %d", b, got, e)
		}
		_ = append(got.Recs[0].Srcs, 77, 77)
		_ = append(got.Recs[1].Srcs, 77, 77)
		if !alike(got, m) {
			t.Errorf("lists share: %v", got)
		}
		clear(got.Recs[0].Srcs)
		clear(got.Recs)
		if !bytes.Equal(b, kept) {
			t.Errorf("after Decode: %v, not %v", b, kept)
		}
	}
}
