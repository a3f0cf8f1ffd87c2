package group_test

import (
	"bytes"
	"encoding/binary"
	"math"
	"slices"
	"testing"

	"punchcut/api"
	"punchcut/group"
	"punchcut/seg"
)

// row is a group by the words of P10.1: its Start, its End, the Start's glyph.
type row [3]uint32

// plainTable is the table by the words of P10.1, right or not.
func plainTable(rows ...row) []byte {
	n := uint32(len(rows))
	p := []byte{0, 12, 0, 0}
	for _, number := range []uint32{16 + 12*n, 0, n} {
		p = binary.BigEndian.AppendUint32(p, number)
	}
	for _, r := range rows {
		for _, number := range r {
			p = binary.BigEndian.AppendUint32(p, number)
		}
	}
	return p
}

// four is the number of four bytes that stands there.
func four(p []byte, at int) int { return int(binary.BigEndian.Uint32(p[at:])) }

// plainRows is how many groups a table has, by the words of P10.1; false: it is none.
func plainRows(p []byte) (int, bool) {
	if len(p) < 16 || p[0] != 0 || p[1] != 12 || p[2] != 0 || p[3] != 0 {
		return 0, false
	}
	n := four(p, 12)
	if four(p, 4) != 16+12*n || four(p, 4) > len(p) {
		return 0, false
	}
	for at := 16; at < 16+12*n; at += 12 {
		start, end, glyph := four(p, at), four(p, at+4), four(p, at+8)
		if start > end || end > 0x10ffff || glyph+end-start > 0xffff {
			return 0, false
		}
		if at > 16 && start <= four(p, at-8) {
			return 0, false
		}
	}
	return n, true
}

// plainLook is P10.2 by its words, of a table's bytes.
func plainLook(p []byte, code int) int {
	for at := 16; at < 16+12*four(p, 12); at += 12 {
		if four(p, at) <= code && code <= four(p, at+4) {
			return four(p, at+8) + code - four(p, at)
		}
	}
	return 0
}

// plainBuild is the table of pairs by the words of P10.2.
func plainBuild(l []seg.Pair) []byte {
	var rows []row
	for _, p := range l {
		code, glyph := uint32(p.Code), uint32(p.Glyph)
		if n := len(rows); n > 0 && rows[n-1][1]+1 == code && rows[n-1][2]+code-rows[n-1][0] == glyph {
			rows[n-1][1] = code
		} else {
			rows = append(rows, row{code, code, glyph})
		}
	}
	return plainTable(rows...)
}

// pairs are codes and glyphs, one behind the other.
func pairs(l ...int) []seg.Pair {
	var out []seg.Pair
	for i := 0; i < len(l); i += 2 {
		out = append(out, seg.Pair{Code: rune(l[i]), Glyph: uint16(l[i+1])})
	}
	return out
}

// wantForm asks for ErrForm, and for a Map of nothing beside it.
func wantForm(t *testing.T, what string, p []byte) {
	t.Helper()
	m, e := group.Parse(p)
	if e != api.ErrForm || m.Groups() != 0 || m.Look(0) != 0 || m.Look(65) != 0 {
		t.Errorf("%s: %v, %d groups, Look(65) %d", what, e, m.Groups(), m.Look(65))
	}
}

// wantRight asks for a table's Map, with all its groups.
func wantRight(t *testing.T, what string, p []byte) group.Map {
	t.Helper()
	m, e := group.Parse(p)
	if e != api.OK || m.Groups() != four(p, 12) {
		t.Errorf("%s: %v, %d groups", what, e, m.Groups())
	}
	return m
}

// edges are the codes at which a table's groups begin and end, those beside them, and some that are none.
func edges(p []byte) []int {
	l := []int{math.MinInt32, -65536, -2, -1, 0, 1, 65, 0x10ffff, 0x110000, math.MaxInt32}
	for at := 16; at < 16+12*four(p, 12); at += 12 {
		for _, code := range []int{four(p, at), four(p, at+4)} {
			l = append(l, code-1, code, code+1, code+0x10000)
		}
	}
	return l
}

// wantLooks holds a Map against the bytes it is of.
func wantLooks(t *testing.T, what string, m group.Map, p []byte) {
	t.Helper()
	for _, code := range edges(p) {
		if got := m.Look(rune(code)); int(got) != plainLook(p, code) {
			t.Fatalf("%s: Look(%x): %d, not %d", what, code, got, plainLook(p, code))
		}
	}
}

// samples are right tables with all that one may have.
func samples() [][]byte {
	return [][]byte{
		plainTable(),
		plainTable(row{0, 0, 0}),
		plainTable(row{0, 0xffff, 0}),
		plainTable(row{0x10ffff, 0x10ffff, 0xffff}),
		plainTable(row{0x100000, 0x10ffff, 0}),
		plainTable(row{65, 66, 3}, row{0x1f600, 0x1f600, 5}),
		plainTable(row{0, 9, 0xfff6}, row{10, 10, 0xffff}, row{12, 14, 0}, row{0xfffe, 0x10001, 7}),
		plainTable(row{65, 66, 3}, row{67, 68, 5}, row{0xd800, 0xdfff, 1}),
	}
}

// P10.1: the example's table written out, byte for byte.
func TestParseWrittenOut(t *testing.T) {
	p := []byte("\x00\x0c\x00\x00\x00\x00\x00\x28\x00\x00\x00\x00\x00\x00\x00\x02" +
		"\x00\x00\x00\x41\x00\x00\x00\x42\x00\x00\x00\x03\x00\x01\xf6\x00\x00\x01\xf6\x00\x00\x00\x00\x05")
	m, e := group.Parse(p)
	if e != api.OK || m.Groups() != 2 || m.Look(64) != 0 || m.Look(65) != 3 || m.Look(66) != 4 || m.Look(67) != 0 || m.Look(128512) != 5 {
		t.Errorf("%v, %d groups, %d, %d", e, m.Groups(), m.Look(65), m.Look(128512))
	}
	if !bytes.Equal(p, group.Build(pairs(65, 3, 66, 4, 128512, 5))) {
		t.Error("Build makes another")
	}
}

// P10.1, P10.2: right tables.
func TestSamples(t *testing.T) {
	for i, p := range samples() {
		if _, ok := plainRows(p); !ok {
			t.Fatalf("sample %d isn't right", i)
		}
		wantLooks(t, "a sample", wantRight(t, "a sample", p), p)
	}
}

// P10.1, P10.2: each byte of right tables as each other byte: wrong where the words say so, and else read.
func TestTurnedBytes(t *testing.T) {
	for _, p := range samples() {
		for i := range p {
			for b := range 256 {
				q := bytes.Clone(p)
				q[i] = byte(b)
				if _, ok := plainRows(q); !ok {
					wantForm(t, "a turned byte", q)
					continue
				}
				wantLooks(t, "a turned byte", wantRight(t, "a turned byte", q), q)
			}
		}
	}
}

// P10.1: cut short at any place a table is none; what stands behind it isn't looked at, however much it is.
func TestParseSizes(t *testing.T) {
	for _, p := range samples() {
		for n := range p {
			wantForm(t, "cut short", p[:n:n])
			wantForm(t, "cut short, with spare room", p[:n])
		}
		for _, more := range []int{1, 2, 11, 12, 13, 70000} {
			q := append(bytes.Clone(p), bytes.Repeat([]byte{0xff}, more)...)
			wantLooks(t, "with bytes behind", wantRight(t, "with bytes behind", q), p)
		}
	}
	wantForm(t, "nil", nil)
	wantForm(t, "empty", []byte{})
}

// P10.1: a length that isn't just that of the groups, in bytes that have all of it.
func TestParseLengths(t *testing.T) {
	p := append(plainTable(row{65, 66, 3}, row{70, 70, 1}), make([]byte, 100)...)
	for length := range uint32(140) {
		for n := range uint32(12) {
			binary.BigEndian.PutUint32(p[4:], length)
			binary.BigEndian.PutUint32(p[12:], n)
			if length == 16+12*n && n <= 2 {
				wantRight(t, "just that of the groups", p)
			} else {
				wantForm(t, "not just that of the groups", p)
			}
		}
	}
}

// P10.1: numbers of groups whose length, in 32 bits, would be that of few.
func TestParseManyGroups(t *testing.T) {
	p := append(plainTable(row{65, 66, 3}), make([]byte, 1000)...)
	for _, n := range []uint32{1 << 30, 1<<30 + 1, 1 << 31, 1<<31 + 1, 3 << 30, 0x15555555, 0x15555556, 1<<32 - 1, 1<<32 - 2} {
		binary.BigEndian.PutUint32(p[12:], n)
		for _, length := range []uint32{16 + 12*n, 28, 16, 0, 4, 1<<32 - 1} {
			binary.BigEndian.PutUint32(p[4:], length)
			wantForm(t, "far too many groups", p)
		}
	}
}

// P10.1: any language will do.
func TestParseLanguage(t *testing.T) {
	p := plainTable(row{65, 66, 3})
	for _, language := range []uint32{1, 255, 65536, 1 << 31, 1<<32 - 1} {
		binary.BigEndian.PutUint32(p[8:], language)
		wantLooks(t, "of a language", wantRight(t, "of a language", p), p)
	}
}

// P10.1: all Starts and Ends of two groups at the edges: just those in order, up to 10ffff, are read.
func TestParseOrder(t *testing.T) {
	each := []uint32{0, 1, 2, 0xffff, 0x10000, 0x10fffe, 0x10ffff, 0x110000, 1<<31 - 1, 1 << 31, 1<<32 - 1}
	for _, a := range each {
		for _, b := range each {
			for _, c := range each {
				for _, d := range each {
					p := plainTable(row{a, b, 0}, row{c, d, 0})
					if a <= b && b < c && c <= d && d <= 0x10ffff && b-a <= 0xffff && d-c <= 0xffff {
						wantLooks(t, "in order", wantRight(t, "in order", p), p)
					} else {
						wantForm(t, "not in order", p)
					}
				}
			}
		}
	}
}

// P10.1: the End's glyph is at most ffff, also where the sum leaves 32 bits.
func TestParseGlyphs(t *testing.T) {
	for _, width := range []uint32{0, 1, 2, 0x7fff, 0xfffe, 0xffff, 0x10000, 0x10001, 0x10ffff} {
		for _, glyph := range []uint32{0, 1, 2, 0x8000, 0xfffd, 0xfffe, 0xffff, 0x10000, 0x10001, 1 << 31, 1<<32 - 1, 1<<32 - 2, -width, 1 - width} {
			p := plainTable(row{0, width, glyph})
			if uint64(width)+uint64(glyph) <= 0xffff {
				wantLooks(t, "up to a glyph", wantRight(t, "up to a glyph", p), p)
			} else {
				wantForm(t, "beyond the last glyph", p)
			}
		}
	}
}

// P10.1: of many groups, one is wrong, wherever it stands.
func TestParseOneWrong(t *testing.T) {
	var rows []row
	for i := range uint32(20) {
		rows = append(rows, row{10 * i, 10*i + 5, i})
	}
	for i := range rows {
		for _, wrong := range []row{{10*uint32(i) + 6, 10*uint32(i) + 5, 0}, {0x10ffff, 0x110000, 0}, {10 * uint32(i), 10*uint32(i) + 1, 0xffff}} {
			l := slices.Clone(rows)
			l[i] = wrong
			wantForm(t, "one wrong group", plainTable(l...))
		}
		if i > 0 {
			l := slices.Clone(rows)
			l[i][0] = 10*uint32(i) - 5
			wantForm(t, "a Start at the End ahead", plainTable(l...))
			l[i][0]++
			wantRight(t, "a Start behind it", plainTable(l...))
		}
	}
}

// P10.1: as many groups as there are codes; with one more two have a code in common.
func TestParseMost(t *testing.T) {
	n := 0x110000
	rows := make([]row, n, n+1)
	for i := range rows {
		rows[i] = row{uint32(i), uint32(i), uint32(i % 65521)}
	}
	m := wantRight(t, "a group of each code", plainTable(rows...))
	for i := -1; i <= n; i++ {
		if got := m.Look(rune(i)); i >= 0 && i < n && int(got) != i%65521 || (i < 0 || i == n) && got != 0 {
			t.Fatalf("Look(%x): %d", i, got)
		}
	}
	wantForm(t, "one group more", plainTable(append(rows, row{0x10ffff, 0x10ffff, 1})...))
	wantForm(t, "one group more", plainTable(append(rows, row{0x110000, 0x110000, 1})...))
}

// P10.2: a Map of nothing tells nothing.
func TestNothing(t *testing.T) {
	var m group.Map
	for _, code := range []rune{math.MinInt32, -1, 0, 65, 0x10ffff, math.MaxInt32} {
		if m.Look(code) != 0 || m.Groups() != 0 {
			t.Errorf("Look(%d): %d, of %d groups", code, m.Look(code), m.Groups())
		}
	}
}

// P10.1, P10.2: tables made by a rule from any number, turned at a place or two.
func TestMixed(t *testing.T) {
	state := uint32(1)
	next := func(n int) int {
		state = state*1664525 + 1013904223
		return int(state>>8) % n
	}
	right := 0
	for range 30000 {
		var rows []row
		code := next(3)
		for range next(6) {
			end := code + next(4)
			rows = append(rows, row{uint32(code), uint32(end), uint32(next(65540))})
			code = end + 1 + next(3)*next(3)
		}
		p := plainTable(rows...)
		for range next(3) {
			p[next(len(p))] = byte(next(256))
		}
		if _, ok := plainRows(p); !ok {
			wantForm(t, "mixed", p)
			continue
		}
		right++
		m := wantRight(t, "mixed", p)
		wantLooks(t, "mixed", m, p)
		for code := -1; code < 50; code++ {
			if int(m.Look(rune(code))) != plainLook(p, code) {
				t.Fatalf("%x: Look(%d): %d", p, code, m.Look(rune(code)))
			}
		}
	}
	if right < 5000 || right > 25000 {
		t.Errorf("%d of 30000 are right", right)
	}
}

// P10.2: tables written out; of no pairs there are no groups.
func TestBuildWrittenOut(t *testing.T) {
	for _, c := range []struct {
		l []seg.Pair
		p string
	}{
		{nil, "\x00\x0c\x00\x00\x00\x00\x00\x10\x00\x00\x00\x00\x00\x00\x00\x00"},
		{[]seg.Pair{}, "\x00\x0c\x00\x00\x00\x00\x00\x10\x00\x00\x00\x00\x00\x00\x00\x00"},
		{pairs(0, 0), "\x00\x0c\x00\x00\x00\x00\x00\x1c\x00\x00\x00\x00\x00\x00\x00\x01\x00\x00\x00\x00\x00\x00\x00\x00\x00\x00\x00\x00"},
		{pairs(0x10ffff, 0xffff), "\x00\x0c\x00\x00\x00\x00\x00\x1c\x00\x00\x00\x00\x00\x00\x00\x01\x00\x10\xff\xff\x00\x10\xff\xff\x00\x00\xff\xff"},
		{pairs(65, 0xffff, 66, 0), "\x00\x0c\x00\x00\x00\x00\x00\x28\x00\x00\x00\x00\x00\x00\x00\x02\x00\x00\x00\x41\x00\x00\x00\x41\x00\x00\xff\xff\x00\x00\x00\x42\x00\x00\x00\x42\x00\x00\x00\x00"},
		{pairs(0xffff, 0xfffe, 0x10000, 0xffff), "\x00\x0c\x00\x00\x00\x00\x00\x1c\x00\x00\x00\x00\x00\x00\x00\x01\x00\x00\xff\xff\x00\x01\x00\x00\x00\x00\xff\xfe"},
	} {
		if p := group.Build(c.l); string(p) != c.p {
			t.Errorf("%v: %x", c.l, p)
		}
	}
}

// wantPairs asks a table for just these pairs.
func wantPairs(t *testing.T, p []byte, l []seg.Pair) {
	t.Helper()
	m := wantRight(t, "of pairs", p)
	want := map[rune]uint16{}
	for _, p := range l {
		want[p.Code] = p.Glyph
	}
	for _, p := range l {
		for code := p.Code - 2; code <= p.Code+2; code++ {
			if m.Look(code) != want[code] {
				t.Fatalf("Look(%x): %d, not %d", code, m.Look(code), want[code])
			}
		}
	}
}

// P10.2: all choices of glyphs for codes near each other, at three places: as few groups as runs, and each pair is
// read again.
func TestBuildRuns(t *testing.T) {
	glyphs := []int{-1, 0, 1, 2, 0xfffe, 0xffff}
	for _, first := range []int{0, 0xfffe, 0x10fffc} {
		for n := range 6 * 6 * 6 * 6 {
			var l []seg.Pair
			for i, k := range []int{n % 6, n / 6 % 6, n / 36 % 6, n / 216} {
				if glyphs[k] >= 0 {
					l = append(l, pairs(first+i, glyphs[k])...)
				}
			}
			p := group.Build(l)
			if !bytes.Equal(p, plainBuild(l)) {
				t.Fatalf("%v: %x", l, p)
			}
			wantPairs(t, p, l)
		}
	}
}

// P10.2: all codes there are, in runs of all glyphs, and each by itself.
func TestBuildMost(t *testing.T) {
	l := make([]seg.Pair, 0x110000)
	for i := range l {
		l[i] = seg.Pair{Code: rune(i), Glyph: uint16(i)}
	}
	p := group.Build(l)
	if len(p) != 16+12*17 || !bytes.Equal(p, plainBuild(l)) {
		t.Errorf("of runs: %d bytes", len(p))
	}
	wantPairs(t, p, l)
	for i := range l {
		l[i].Glyph = uint16(2 * i)
	}
	p = group.Build(l)
	if len(p) != 16+12*0x110000 || !bytes.Equal(p, plainBuild(l)) {
		t.Errorf("of each by itself: %d bytes", len(p))
	}
	if m := wantRight(t, "of each by itself", p); m.Look(0x10ffff) != 0xfffe {
		t.Errorf("the last: %d", m.Look(0x10ffff))
	}
}

// P10.2: nothing of pairs that don't Rise up to 10ffff.
func TestBuildOthers(t *testing.T) {
	for _, l := range [][]seg.Pair{
		pairs(-1, 1),
		pairs(math.MinInt32, 1),
		pairs(-1, 1, 0, 2),
		pairs(65, 1, 65, 1),
		pairs(65, 1, 65, 2),
		pairs(65, 1, 64, 2),
		pairs(65, 1, 66, 2, 66, 3),
		pairs(65, 1, 66, 2, -1, 3),
		pairs(0x1f600, 1, 65, 2),
		pairs(0x110000, 1),
		pairs(0x10ffff, 1, 0x110000, 2),
		pairs(math.MaxInt32, 1),
		pairs(math.MaxInt32, 1, math.MinInt32, 2),
	} {
		if p := group.Build(l); len(p) != 0 {
			t.Errorf("%v: %x", l, p)
		}
	}
}

// Rules 'Memory' and 'Values': what is handed in stays as it is and isn't kept, and Maps are apart.
func TestMemory(t *testing.T) {
	p := append(plainTable(row{65, 66, 3}, row{0x1f600, 0x1f600, 5}), "spare"...)
	whole := bytes.Clone(p)
	m, other := wantRight(t, "ahead", p[:40]), wantRight(t, "ahead", p[:40])
	if !bytes.Equal(p, whole) {
		t.Fatalf("Parse changed: %x", p)
	}
	copy(p, plainTable(row{60, 80, 1}, row{0x1f600, 0x1f601, 9}))
	third := wantRight(t, "written over", p)
	wantLooks(t, "kept", m, whole)
	wantLooks(t, "kept", other, whole)
	if third.Look(65) != 6 {
		t.Errorf("another Map: %d", third.Look(65))
	}
	m, _ = group.Parse(nil)
	if m.Groups() != 0 || other.Groups() != 2 {
		t.Errorf("%d, %d groups", m.Groups(), other.Groups())
	}
}

// Rule 'Memory': what Build is handed, and what it answers.
func TestBuildMemory(t *testing.T) {
	l := pairs(65, 3, 66, 4, 128512, 5, 1, 1)
	kept := slices.Clone(l)
	first, second := group.Build(l[:3]), group.Build(l[:3])
	want := bytes.Clone(first)
	if !slices.Equal(l, kept) {
		t.Fatalf("changed: %v", l)
	}
	for i := range l {
		l[i] = seg.Pair{}
	}
	second = second[:cap(second)]
	for i := range second {
		second[i] = '#'
	}
	if !bytes.Equal(first, want) {
		t.Fatalf("kept or shared: %x", first)
	}
}
