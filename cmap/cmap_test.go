package cmap_test

import (
	"bytes"
	"encoding/binary"
	"math"
	"slices"
	"testing"

	"punchcut/api"
	"punchcut/cmap"
	"punchcut/group"
	"punchcut/seg"
)

// record is a record by the words of P11.1: its platform, its encoding, where its table begins.
type record struct {
	platform, encoding int
	at                 uint32
}

// ranks is the records whose tables are read, by the words of P11.1, in their order; the first two are Wide.
func ranks() []record {
	return []record{{platform: 3, encoding: 10}, {platform: 0, encoding: 4}, {platform: 3, encoding: 1}, {platform: 0, encoding: 3}}
}

// others are records that aren't looked at: each is near to one that is.
func others() []record {
	return []record{
		{platform: 0, encoding: 0}, {platform: 0, encoding: 1}, {platform: 0, encoding: 2}, {platform: 0, encoding: 5},
		{platform: 0, encoding: 6}, {platform: 0, encoding: 10}, {platform: 1, encoding: 0}, {platform: 1, encoding: 3},
		{platform: 1, encoding: 10}, {platform: 2, encoding: 1}, {platform: 3, encoding: 0}, {platform: 3, encoding: 2},
		{platform: 3, encoding: 3}, {platform: 3, encoding: 4}, {platform: 3, encoding: 9}, {platform: 4, encoding: 0},
		{platform: 4, encoding: 3}, {platform: 4, encoding: 4}, {platform: 10, encoding: 3},
		{platform: 0x103, encoding: 10}, {platform: 0x300, encoding: 10}, {platform: 3, encoding: 0x10a},
		{platform: 3, encoding: 0xa00}, {platform: 0x100, encoding: 4}, {platform: 0, encoding: 0x104},
		{platform: 0x103, encoding: 1}, {platform: 3, encoding: 0x101}, {platform: 3, encoding: 0x100},
		{platform: 0x8003, encoding: 1}, {platform: 0x8000, encoding: 3}, {platform: 0, encoding: 0x8003},
		{platform: 0xffff, encoding: 0xffff},
	}
}

// plainFront is what stands ahead of the tables, by the words of P11.1.
func plainFront(l ...record) []byte {
	p := []byte{0, 0, byte(len(l) >> 8), byte(len(l))}
	for _, r := range l {
		p = binary.BigEndian.AppendUint16(p, uint16(r.platform))
		p = binary.BigEndian.AppendUint16(p, uint16(r.encoding))
		p = binary.BigEndian.AppendUint32(p, r.at)
	}
	return p
}

// table is a table in which 65 has a glyph, in the form that records of that kind have.
func table(wide bool, glyph uint16) []byte {
	if wide {
		return group.Build([]seg.Pair{{Code: 65, Glyph: glyph}})
	}
	return seg.Build([]seg.Pair{{Code: 65, Glyph: glyph}})
}

// isWide tells by the words of P11.1 whether the record's table is that of layer 10.
func isWide(r record) bool {
	return r.platform == 3 && r.encoding == 10 || r.platform == 0 && r.encoding == 4
}

// laid is the records with their tables one behind the other. In the table of the record i 65 has the glyph 100 + i;
// a record that isn't looked at has no table there, but bytes that are none.
func laid(l ...record) []byte {
	l = slices.Clone(l)
	var tables []byte
	for i := range l {
		l[i].at = uint32(4 + 8*len(l) + len(tables))
		data := []byte{0xff, 0xff, 0xff}
		if slices.ContainsFunc(ranks(), l[i].same) {
			data = table(isWide(l[i]), uint16(100+i))
		}
		tables = append(tables, data...)
	}
	return append(plainFront(l...), tables...)
}

func (r record) same(s record) bool { return r.platform == s.platform && r.encoding == s.encoding }

// plainFirst is the place of the record that counts, by the words of P11.1; -1: there is none of these.
func plainFirst(l []record) int {
	for _, wanted := range ranks() {
		if i := slices.IndexFunc(l, wanted.same); i >= 0 {
			return i
		}
	}
	return -1
}

// plainParse reads a table cmap by the words of P11.1, but for the table, which layer 9 or 10 reads.
func plainParse(p []byte) (look func(rune) uint16, wide, ok bool) {
	if len(p) < 4 || p[0] != 0 || p[1] != 0 {
		return nil, false, false
	}
	n := int(binary.BigEndian.Uint16(p[2:]))
	if len(p) < 4+8*n {
		return nil, false, false
	}
	var l []record
	for i := range n {
		q := p[4+8*i:]
		l = append(l, record{int(q[0])<<8 + int(q[1]), int(q[2])<<8 + int(q[3]), binary.BigEndian.Uint32(q[4:])})
	}
	i := plainFirst(l)
	if i < 0 || int64(l[i].at) > int64(len(p)) {
		return nil, false, false
	}
	if isWide(l[i]) {
		m, e := group.Parse(p[l[i].at:])
		return m.Look, true, e == api.OK
	}
	m, e := seg.Parse(p[l[i].at:])
	return m.Look, false, e == api.OK
}

// wantForm asks for ErrForm, and for a Map of nothing beside it.
func wantForm(t *testing.T, what string, p []byte) {
	t.Helper()
	m, e := cmap.Parse(p)
	if e != api.ErrForm || m.Wide() {
		t.Errorf("%s: %v, wide %v", what, e, m.Wide())
	}
	for _, code := range []rune{-1, 0, 65, 66, 0xffff, 0x1f600} {
		if m.Look(code) != 0 {
			t.Errorf("%s: Look(%x): %d", what, code, m.Look(code))
		}
	}
}

// wantMap asks for a Map that is Wide or not, in which 65 has the glyph.
func wantMap(t *testing.T, what string, p []byte, wide bool, glyph uint16) {
	t.Helper()
	m, e := cmap.Parse(p)
	if e != api.OK || m.Wide() != wide || m.Look(65) != glyph || m.Look(66) != 0 {
		t.Errorf("%s: %v, wide %v, Look(65) %d, not %d", what, e, m.Wide(), m.Look(65), glyph)
	}
}

// wantFirst asks of laid records for the table of the one that counts.
func wantFirst(t *testing.T, what string, l []record) {
	t.Helper()
	i := plainFirst(l)
	if i < 0 {
		wantForm(t, what, laid(l...))
		return
	}
	wantMap(t, what, laid(l...), isWide(l[i]), uint16(100+i))
}

// wantPlain holds what Parse answers against the words.
func wantPlain(t *testing.T, what string, p []byte) bool {
	t.Helper()
	look, wide, ok := plainParse(p)
	if !ok {
		wantForm(t, what, p)
		return false
	}
	m, e := cmap.Parse(p)
	if e != api.OK || m.Wide() != wide {
		t.Errorf("%s: %x: %v, wide %v", what, p, e, m.Wide())
	}
	for _, code := range []rune{math.MinInt32, -1, 0, 1, 32, 64, 65, 66, 67, 0xfffe, 0xffff, 0x10000, 0x10041, 0x1f600, 0x10ffff, 0x110000, math.MaxInt32} {
		if m.Look(code) != look(code) {
			t.Errorf("%s: %x: Look(%x): %d, not %d", what, p, code, m.Look(code), look(code))
		}
	}
	return true
}

// P11.1: tables written out, byte for byte.
func TestParseWrittenOut(t *testing.T) {
	segments := "\x00\x04\x00\x20\x00\x00\x00\x04\x00\x04\x00\x01\x00\x00\x00\x41\xff\xff\x00\x00\x00\x41\xff\xff\xff\xc2\x00\x01\x00\x00\x00\x00"
	groups := "\x00\x0c\x00\x00\x00\x00\x00\x1c\x00\x00\x00\x00\x00\x00\x00\x01\x00\x00\x00\x41\x00\x00\x00\x41\x00\x00\x00\x03"
	wantMap(t, "3 and 1", []byte("\x00\x00\x00\x01\x00\x03\x00\x01\x00\x00\x00\x0c"+segments), false, 3)
	wantMap(t, "0 and 3", []byte("\x00\x00\x00\x01\x00\x00\x00\x03\x00\x00\x00\x0c"+segments), false, 3)
	wantMap(t, "3 and 10", []byte("\x00\x00\x00\x01\x00\x03\x00\x0a\x00\x00\x00\x0c"+groups), true, 3)
	wantMap(t, "0 and 4", []byte("\x00\x00\x00\x01\x00\x00\x00\x04\x00\x00\x00\x0c"+groups), true, 3)
	wantMap(t, "with a gap", []byte("\x00\x00\x00\x01\x00\x00\x00\x04\x00\x00\x00\x0fgap"+groups), true, 3)
	wantForm(t, "3 and 2", []byte("\x00\x00\x00\x01\x00\x03\x00\x02\x00\x00\x00\x0c"+segments))
}

// P11.1: all lists of up to five of the four records and one that isn't looked at: the first in rank counts,
// wherever it stands, and of those alike the one ahead.
func TestParseRanks(t *testing.T) {
	each := append(ranks(), record{platform: 1})
	lists := [][]record{{}}
	for at := 0; at < len(lists); at++ {
		wantFirst(t, "ranks", lists[at])
		if len(lists[at]) == 5 {
			continue
		}
		for _, r := range each {
			lists = append(lists, append(slices.Clone(lists[at]), r))
		}
	}
}

// P11.1: other records don't count, alone or beside one that does, wherever their tables are said to begin.
func TestParseOthers(t *testing.T) {
	for _, other := range others() {
		wantForm(t, "another record alone", laid(other))
		for _, r := range ranks() {
			wantFirst(t, "another record ahead", []record{other, r})
			wantFirst(t, "another record behind", []record{r, other})
			for _, far := range []uint32{0, 3, 20, 1 << 31, 1<<32 - 1} {
				other.at, r.at = far, 20
				wantMap(t, "another record's place", append(plainFront(other, r), table(isWide(r), 7)...), isWide(r), 7)
				wantMap(t, "another record's place", append(plainFront(r, other), table(isWide(r), 7)...), isWide(r), 7)
			}
		}
		// A right table makes the record no other one.
		other.at = 12
		wantForm(t, "another record with segments", append(plainFront(other), table(false, 7)...))
		wantForm(t, "another record with groups", append(plainFront(other), table(true, 7)...))
	}
	wantFirst(t, "all other records", others())
	wantFirst(t, "all records", append(others(), ranks()...))
}

// P11.1: each platform and each encoding up to 300: just the four are read, each in its form alone.
func TestParseEachKind(t *testing.T) {
	for platform := range 300 {
		for encoding := range 300 {
			r := record{platform, encoding, 12}
			known := slices.ContainsFunc(ranks(), r.same)
			for _, wide := range []bool{false, true} {
				p := append(plainFront(r), table(wide, 7)...)
				if known && wide == isWide(r) {
					wantMap(t, "a kind", p, wide, 7)
				} else if m, e := cmap.Parse(p); e != api.ErrForm || m.Wide() || m.Look(65) != 0 {
					t.Errorf("%d and %d, groups %v: %v, Look(65) %d", platform, encoding, wide, e, m.Look(65))
				}
			}
		}
	}
}

// P11.1: if the table that counts is wrong, another isn't taken instead; one behind it in rank may be wrong.
func TestParseNoOtherInstead(t *testing.T) {
	for i, first := range ranks() {
		for _, behind := range ranks()[i:] {
			wrongs := [][]byte{{}, {0}, make([]byte, 100), table(!isWide(first), 7)}
			for _, wrong := range wrongs {
				right := table(isWide(behind), 8)
				first.at, behind.at = uint32(20+len(right)), 20
				wantForm(t, "a wrong table", append(append(plainFront(first, behind), right...), wrong...))
				right = table(isWide(first), 9)
				first.at, behind.at = 20, uint32(20+len(right))
				p := append(append(plainFront(first, behind), right...), wrong...)
				wantMap(t, "a wrong table behind in rank", p, isWide(first), 9)
			}
			for _, far := range []uint32{1000, 1 << 31, 1<<32 - 1} {
				first.at, behind.at = far, 20
				wantForm(t, "a place behind the end", append(plainFront(first, behind), table(isWide(behind), 8)...))
				if !first.same(behind) {
					wantForm(t, "a place behind the end", append(plainFront(behind, first), table(isWide(behind), 8)...))
				}
				first.at, behind.at = 20, far
				wantMap(t, "a place behind the end, behind in rank", append(plainFront(first, behind), table(isWide(first), 9)...), isWide(first), 9)
			}
		}
	}
}

// P11.1: each place at which a table may be said to begin: just at its own it is one.
func TestParsePlaces(t *testing.T) {
	for _, r := range ranks() {
		data := table(isWide(r), 7)
		for gap := range 9 {
			p := append(append(plainFront(r), make([]byte, gap)...), data...)
			for place := range uint32(len(p) + 20) {
				binary.BigEndian.PutUint32(p[8:], place)
				if place == uint32(12+gap) {
					wantMap(t, "its place", p, isWide(r), 7)
				} else {
					wantForm(t, "another place", p)
				}
			}
			for _, place := range []uint32{1<<16 + 12, 1 << 24, 1<<31 - 1, 1 << 31, 1<<31 + 12, 1<<32 - 12, 1<<32 - 1} {
				binary.BigEndian.PutUint32(p[8:], place+uint32(gap))
				wantForm(t, "a place far behind", p)
			}
		}
	}
}

// P11.1: what isn't all there is none, with spare room behind it or not; what is behind the table isn't looked at.
func TestParseSizes(t *testing.T) {
	for _, r := range ranks() {
		p := laid(record{platform: 1}, r)
		for n := range p {
			wantForm(t, "cut short", p[:n:n])
			wantForm(t, "cut short, with spare room", p[:n])
		}
		for _, more := range []int{1, 2, 3, 12, 70000} {
			wantMap(t, "with bytes behind", append(bytes.Clone(p), bytes.Repeat([]byte{0xff}, more)...), isWide(r), 101)
		}
	}
	wantForm(t, "nil", nil)
	wantForm(t, "empty", []byte{})
	for n := range 4 {
		wantForm(t, "noughts", make([]byte, n))
	}
	wantForm(t, "no records", make([]byte, 4))
	wantForm(t, "no records, and noughts", make([]byte, 100))
	wantForm(t, "no records, and a table", append(make([]byte, 4), table(false, 7)...))
}

// P11.1: each first number but 0 is none.
func TestParseFirstNumber(t *testing.T) {
	for _, r := range ranks() {
		p := laid(r)
		for n := range 1 << 16 {
			binary.BigEndian.PutUint16(p, uint16(n))
			if n == 0 {
				wantMap(t, "0", p, isWide(r), 100)
			} else if m, e := cmap.Parse(p); e != api.ErrForm || m.Wide() || m.Look(65) != 0 {
				t.Fatalf("%x: %v", n, e)
			}
		}
	}
}

// P11.1: each number of records: the right one is among the first of them, or it doesn't count; all have to be there.
func TestParseCounts(t *testing.T) {
	for _, r := range ranks() {
		p := laid(record{platform: 1}, r)
		for n := range 1 << 16 {
			binary.BigEndian.PutUint16(p[2:], uint16(n))
			right := n >= 2 && 4+8*n <= len(p)
			if m, e := cmap.Parse(p); right != (e == api.OK) || right != (m.Look(65) == 101) {
				t.Fatalf("%d records: %v, Look(65) %d", n, e, m.Look(65))
			}
			wantPlain(t, "a count", p)
		}
	}
}

// P11.1: as many records as may be, one of which counts, wherever it stands, and all of which have to be there.
func TestParseMost(t *testing.T) {
	for _, r := range ranks() {
		for _, i := range []int{0, 1, 255, 256, 32767, 32768, 65533, 65534} {
			l := slices.Repeat([]record{{platform: 1, at: 5}}, 65535)
			for k := range l {
				l[k].encoding = k
			}
			l[i] = r
			l[i].at = 4 + 8*65535
			front := plainFront(l...)
			wantMap(t, "of 65535", append(front, table(isWide(r), 7)...), isWide(r), 7)
			wantForm(t, "of 65535, not all there", front[:len(front)-1])
			wantForm(t, "of 65535, without a table", front)
		}
		l := slices.Repeat([]record{{platform: r.platform, encoding: r.encoding, at: 1 << 30}}, 65535)
		l[0].at = 4 + 8*65535
		wantMap(t, "of 65535 alike", append(plainFront(l...), table(isWide(r), 7)...), isWide(r), 7)
	}
}

// P11.1: nothing says that a table may not begin among the records: here they are the table.
func TestParseTableOfRecords(t *testing.T) {
	segments := []record{{4, 24, 2}, {2, 0, 0xffff}, {0, 65, 3 << 16}, {3, 1, 4}}
	p := plainFront(segments...)
	m, e := cmap.Parse(p)
	if e != api.OK || m.Wide() || m.Look(64) != 0 || m.Look(65) != 68 || m.Look(0xffff) != 2 {
		t.Errorf("segments: %v, Look(65) %d", e, m.Look(65))
	}
	groups := []record{{12, 0, 28}, {0, 0, 1}, {0, 65, 70}, {0, 4, 4}}
	p = plainFront(groups...)
	m, e = cmap.Parse(p)
	if e != api.OK || !m.Wide() || m.Look(64) != 0 || m.Look(65) != 4 || m.Look(70) != 9 || m.Look(71) != 0 {
		t.Errorf("groups: %v, Look(65) %d", e, m.Look(65))
	}
}

// P11.1: two records may have one table.
func TestParseOneTable(t *testing.T) {
	for i, r := range ranks() {
		l := []record{r, ranks()[i^1]}
		l[0].at, l[1].at = 20, 20
		wantMap(t, "one table", append(plainFront(l...), table(isWide(r), 7)...), isWide(r), 7)
	}
}

// samples are right tables of all kinds.
func samples() [][]byte {
	l := [][]byte{
		laid(ranks()...),
		laid(record{platform: 1}, record{platform: 0, encoding: 3}, record{platform: 3, encoding: 1}),
		laid(record{platform: 0, encoding: 3}, record{platform: 0, encoding: 4}, record{platform: 3, encoding: 10}),
		cmap.Build([]seg.Pair{{Code: 0, Glyph: 1}, {Code: 65, Glyph: 3}, {Code: 66, Glyph: 4}, {Code: 0x1f600, Glyph: 5}}, true),
	}
	for _, r := range ranks() {
		l = append(l, laid(r))
	}
	return l
}

// P11.1, P11.2: each byte of right tables as each other byte: wrong where the words say so, and else read.
func TestTurnedBytes(t *testing.T) {
	right, wrong := 0, 0
	for _, p := range samples() {
		for i := range p {
			for b := range 256 {
				q := bytes.Clone(p)
				q[i] = byte(b)
				if wantPlain(t, "a turned byte", q) {
					right++
				} else {
					wrong++
				}
			}
		}
	}
	if right < 1000 || wrong < 1000 {
		t.Errorf("%d are right, %d wrong", right, wrong)
	}
}

// P1, P11.1: bytes made by a rule from any number.
func TestMixed(t *testing.T) {
	state := uint32(1)
	next := func(n int) int {
		state = state*1664525 + 1013904223
		return int(state>>8) % n
	}
	right := 0
	for range 30000 {
		var l []record
		for range next(5) {
			l = append(l, append(ranks(), others()...)[next(6)])
		}
		p := laid(l...)
		for range next(3) {
			p[next(len(p))] = byte(next(256))
		}
		if wantPlain(t, "mixed", p) {
			right++
		}
	}
	if right < 5000 || right > 29000 {
		t.Errorf("%d of 30000 are right", right)
	}
}

// P11.2: Look is the table's, at all codes and beyond, of segments whose glyphs stand in the table, too.
func TestLook(t *testing.T) {
	segments := []byte("\x00\x04\x00\x26\x00\x00\x00\x04\x00\x04\x00\x01\x00\x00\x00\x43\xff\xff\x00\x00\x00\x41\xff\xff\x00\x02\x00\x01\x00\x04\x00\x00" +
		"\x00\x09\x00\x00\x00\x08")
	groups := group.Build([]seg.Pair{{Code: 0, Glyph: 9}, {Code: 65, Glyph: 3}, {Code: 66, Glyph: 4}, {Code: 0xffff, Glyph: 8}, {Code: 0x10000, Glyph: 9}, {Code: 0x10ffff, Glyph: 0xffff}})
	low, e := seg.Parse(segments)
	high, f := group.Parse(groups)
	if e != api.OK || f != api.OK {
		t.Fatal(e, f)
	}
	for _, r := range ranks() {
		data, look := segments, low.Look
		if isWide(r) {
			data, look = groups, high.Look
		}
		r.at = 12
		m, e := cmap.Parse(append(plainFront(r), data...))
		if e != api.OK {
			t.Fatal(r, e)
		}
		for code := rune(-3); code < 0x110003; code++ {
			if m.Look(code) != look(code) {
				t.Fatalf("%v: Look(%x): %d, not %d", r, code, m.Look(code), look(code))
			}
		}
		for _, code := range []rune{math.MinInt32, -0x10000, -65, math.MaxInt32} {
			if m.Look(code) != 0 {
				t.Fatalf("%v: Look(%x): %d", r, code, m.Look(code))
			}
		}
	}
	if low.Look(65) != 11 || low.Look(66) != 0 || low.Look(67) != 10 || high.Look(0x10000) != 9 {
		t.Error("the tables aren't those that were meant")
	}
}

// P11.2: a Map of nothing tells nothing.
func TestNothing(t *testing.T) {
	var m cmap.Map
	for _, code := range []rune{math.MinInt32, -1, 0, 65, 0xffff, 0x10ffff, math.MaxInt32} {
		if m.Look(code) != 0 || m.Wide() {
			t.Errorf("Look(%d): %d", code, m.Look(code))
		}
	}
}

// plainBuild is the table of pairs by the words of P11.2, of which layer 9 or 10 makes its part.
func plainBuild(l []seg.Pair, wide bool) []byte {
	front, data := "\x00\x00\x00\x01\x00\x03\x00\x01\x00\x00\x00\x0c", seg.Build(l)
	if wide {
		front, data = "\x00\x00\x00\x01\x00\x03\x00\x0a\x00\x00\x00\x0c", group.Build(l)
	}
	if len(data) == 0 {
		return nil
	}
	return append([]byte(front), data...)
}

// wantBuild asks for the table of pairs, which is read again, pair by pair; or for nothing where nothing can be.
func wantBuild(t *testing.T, what string, l []seg.Pair, wide, possible bool) {
	t.Helper()
	p := cmap.Build(l, wide)
	if !bytes.Equal(p, plainBuild(l, wide)) || possible != (len(p) > 0) {
		t.Fatalf("%s, wide %v: %d bytes", what, wide, len(p))
	}
	if !possible {
		return
	}
	m, e := cmap.Parse(p)
	if e != api.OK || m.Wide() != wide {
		t.Fatalf("%s, wide %v: %v, wide %v", what, wide, e, m.Wide())
	}
	for i, pair := range l {
		if m.Look(pair.Code) != pair.Glyph {
			t.Fatalf("%s, wide %v: Look(%x): %d", what, wide, pair.Code, m.Look(pair.Code))
		}
		if i+1 == len(l) || l[i+1].Code > pair.Code+1 {
			if m.Look(pair.Code+1) != 0 {
				t.Fatalf("%s, wide %v: Look(%x): %d", what, wide, pair.Code+1, m.Look(pair.Code+1))
			}
		}
	}
}

// P11.2: tables written out; of no pairs there is one, too.
func TestBuildWrittenOut(t *testing.T) {
	for _, c := range []struct {
		l    []seg.Pair
		wide bool
		p    string
	}{
		{[]seg.Pair{{Code: 65, Glyph: 3}}, false, "\x00\x00\x00\x01\x00\x03\x00\x01\x00\x00\x00\x0c" +
			"\x00\x04\x00\x20\x00\x00\x00\x04\x00\x04\x00\x01\x00\x00\x00\x41\xff\xff\x00\x00\x00\x41\xff\xff\xff\xc2\x00\x01\x00\x00\x00\x00"},
		{[]seg.Pair{{Code: 65, Glyph: 3}}, true, "\x00\x00\x00\x01\x00\x03\x00\x0a\x00\x00\x00\x0c" +
			"\x00\x0c\x00\x00\x00\x00\x00\x1c\x00\x00\x00\x00\x00\x00\x00\x01\x00\x00\x00\x41\x00\x00\x00\x41\x00\x00\x00\x03"},
		{nil, false, "\x00\x00\x00\x01\x00\x03\x00\x01\x00\x00\x00\x0c" +
			"\x00\x04\x00\x18\x00\x00\x00\x02\x00\x02\x00\x00\x00\x00\xff\xff\x00\x00\xff\xff\x00\x01\x00\x00"},
		{[]seg.Pair{}, true, "\x00\x00\x00\x01\x00\x03\x00\x0a\x00\x00\x00\x0c" +
			"\x00\x0c\x00\x00\x00\x00\x00\x10\x00\x00\x00\x00\x00\x00\x00\x00"},
	} {
		if p := cmap.Build(c.l, c.wide); string(p) != c.p {
			t.Errorf("%v, wide %v: %x", c.l, c.wide, p)
		}
		wantBuild(t, "written out", c.l, c.wide, true)
	}
}

// P11.2: the pairs of each short list of codes at the edges: what Rises far enough has a table, other lists nothing.
func TestBuildEdges(t *testing.T) {
	codes := []rune{math.MinInt32, -1, 0, 1, 65, 66, 0xfffe, 0xffff, 0x10000, 0x1f600, 0x10ffff, 0x110000, math.MaxInt32}
	lists := [][]seg.Pair{{}}
	for at := 0; at < len(lists); at++ {
		l := lists[at]
		wantBuild(t, "edges", l, false, seg.Rises(l, 0xfffe))
		wantBuild(t, "edges", l, true, seg.Rises(l, 0x10ffff))
		if len(l) == 3 {
			continue
		}
		for i, code := range codes {
			lists = append(lists, append(slices.Clone(l), seg.Pair{Code: code, Glyph: uint16(3*i + 1 + len(l))}))
		}
	}
}

// P11.2: more than 8000 segments can't be, the last one among them; as many groups may.
func TestBuildMany(t *testing.T) {
	var l []seg.Pair
	for i := range 8000 {
		l = append(l, seg.Pair{Code: rune(2 * i), Glyph: uint16(i + 1)})
	}
	wantBuild(t, "8000 segments", l[:7999], false, true)
	wantBuild(t, "8001 segments", l, false, false)
	wantBuild(t, "7999 groups", l[:7999], true, true)
	wantBuild(t, "8000 groups", l, true, true)
	l = nil
	for i := range 0x110000 {
		l = append(l, seg.Pair{Code: rune(i), Glyph: uint16(3 * i)})
	}
	wantBuild(t, "all codes", l, true, true)
	wantBuild(t, "all codes", l, false, false)
}

// Rules 'Memory' and 'Values': what Parse is handed stays as it is and isn't kept, and Maps are apart.
func TestMemory(t *testing.T) {
	for _, r := range ranks() {
		right := laid(r)
		room := append(bytes.Clone(right), "spare"...)
		whole := bytes.Clone(room)
		m, e := cmap.Parse(room[:len(right)])
		other, f := cmap.Parse(room[:len(right)])
		if e != api.OK || f != api.OK || !bytes.Equal(room, whole) {
			t.Fatalf("%v, %v: Parse changed: %x", e, f, room)
		}
		r.at = 12
		copy(room, append(plainFront(r), table(isWide(r), 55)...))
		third, e := cmap.Parse(room)
		if e != api.OK || third.Look(65) != 55 || m.Look(65) != 100 || other.Look(65) != 100 {
			t.Errorf("%v: kept: %d, %d, %d", e, m.Look(65), other.Look(65), third.Look(65))
		}
		for i := range room {
			room[i] = '#'
		}
		held := m
		m, _ = cmap.Parse(nil)
		if m.Look(65) != 0 || m.Wide() || held.Look(65) != 100 || other.Look(65) != 100 || third.Look(65) != 55 {
			t.Errorf("apart: %d, %d, %d", held.Look(65), other.Look(65), third.Look(65))
		}
	}
}

// Rule 'Memory': what Build is handed, and what it answers.
func TestBuildMemory(t *testing.T) {
	for _, wide := range []bool{false, true} {
		l := []seg.Pair{{Code: 65, Glyph: 3}, {Code: 66, Glyph: 4}, {Code: 70, Glyph: 9}, {Code: 1, Glyph: 1}}
		kept := slices.Clone(l)
		first, second := cmap.Build(l[:3], wide), cmap.Build(l[:3], wide)
		want := bytes.Clone(first)
		if !slices.Equal(l, kept) {
			t.Fatalf("changed: %v", l)
		}
		for i := range l {
			l[i] = seg.Pair{}
		}
		second = second[:cap(second)]
		for i := range second {
			second[i] = '#'
		}
		third := cmap.Build(kept[:3], wide)
		if !bytes.Equal(first, want) || !bytes.Equal(third, want) {
			t.Fatalf("kept or shared: %x, %x", first, third)
		}
	}
}
