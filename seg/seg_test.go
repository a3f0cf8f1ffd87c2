package seg_test

import (
	"bytes"
	"encoding/binary"
	"math"
	"slices"
	"testing"

	"punchcut/api"
	"punchcut/seg"
)

// span is a segment by the words of P9.1.
type span struct {
	end, start, delta, offset int
}

// numbers lays numbers of two bytes each.
func numbers(l ...int) []byte {
	var p []byte
	for _, n := range l {
		p = binary.BigEndian.AppendUint16(p, uint16(n))
	}
	return p
}

// plainSearch is the three numbers by the words of P9.1: the power is found by doubling.
func plainSearch(n int) (int, int, int) {
	power, exponent := 1, 0
	for 2*power <= n {
		power, exponent = 2*power, exponent+1
	}
	return 2 * power, exponent, 2*n - 2*power
}

// plainTable is the table by the words of P9.1, right or not.
func plainTable(spans []span, glyphs ...int) []byte {
	n := len(spans)
	a, b, c := plainSearch(n)
	l := []int{4, 16 + 8*n + 2*len(glyphs), 0, 2 * n, a, b, c}
	for _, s := range spans {
		l = append(l, s.end)
	}
	l = append(l, 0)
	for _, s := range spans {
		l = append(l, s.start)
	}
	for _, s := range spans {
		l = append(l, s.delta)
	}
	for _, s := range spans {
		l = append(l, s.offset)
	}
	return numbers(append(l, glyphs...)...)
}

// at is the number of two bytes that stands there.
func at(p []byte, place int) int { return int(p[place])<<8 | int(p[place+1]) }

// plainRight tells by the words of P9.1 whether p is a table: each of the faults is asked for, one by one, of
// the bytes where they stand.
func plainRight(p []byte) bool {
	if len(p) < 4 || at(p, 0) != 4 {
		return false
	}
	length := at(p, 2)
	if !(length > 23 && length <= len(p)) || length%2 == 1 {
		return false
	}
	twice := at(p, 6)
	if twice%2 == 1 || twice == 0 || 16+4*twice > length {
		return false
	}
	a, b, c := plainSearch(twice / 2)
	if at(p, 8) != a || at(p, 10) != b || at(p, 12) != c || at(p, 14+twice) != 0 || at(p, 12+twice) != 0xffff {
		return false
	}
	for i := 0; i < twice; i += 2 {
		end, start, offset := at(p, 14+i), at(p, 16+twice+i), at(p, 16+3*twice+i)
		if start > end || offset%2 == 1 {
			return false
		}
		if i > 0 && (end <= at(p, 12+i) || start <= at(p, 12+i)) {
			return false
		}
		for code := start; offset != 0 && code <= end; code++ {
			if 16+3*twice+i+offset+2*(code-start)+2 > length {
				return false
			}
		}
	}
	return true
}

// plainLook is P9.2 by its words, of a table's bytes.
func plainLook(p []byte, code int) int {
	if code < 0 || code > 0xffff {
		return 0
	}
	twice, i := at(p, 6), 0
	for at(p, 14+i) < code {
		i += 2
	}
	start, delta, offset := at(p, 16+twice+i), at(p, 16+2*twice+i), at(p, 16+3*twice+i)
	if start > code {
		return 0
	}
	if offset == 0 {
		return (code + delta) % 65536
	}
	glyph := at(p, 16+3*twice+i+offset+2*(code-start))
	if glyph == 0 {
		return 0
	}
	return (glyph + delta) % 65536
}

// plainRuns is how many runs pairs have, by the words of P9.3.
func plainRuns(l []seg.Pair) int {
	n := 0
	for i := range l {
		if i == 0 || l[i].Code != l[i-1].Code+1 || int(l[i].Glyph) != (int(l[i-1].Glyph)+1)%65536 {
			n++
		}
	}
	return n
}

// plainBuild is the table of pairs by the words of P9.3.
func plainBuild(l []seg.Pair) []byte {
	var spans []span
	for i, p := range l {
		if i > 0 && plainRuns(l[i-1:i+1]) == 1 {
			spans[len(spans)-1].end = int(p.Code)
			continue
		}
		delta := (int(p.Glyph) - int(p.Code) + 65536) % 65536
		spans = append(spans, span{end: int(p.Code), start: int(p.Code), delta: delta})
	}
	return plainTable(append(spans, span{end: 0xffff, start: 0xffff, delta: 1}))
}

// wantForm asks for ErrForm, and for a Map of nothing beside it.
func wantForm(t *testing.T, what string, p []byte) {
	t.Helper()
	m, e := seg.Parse(p)
	if e != api.ErrForm || m.Segments() != 0 || m.Look(65) != 0 || m.Look(0xffff) != 0 {
		t.Errorf("%s: %v, %d segments, Look(65) %d", what, e, m.Segments(), m.Look(65))
	}
}

// wantRight asks for a table's Map, with all its segments.
func wantRight(t *testing.T, what string, p []byte) seg.Map {
	t.Helper()
	m, e := seg.Parse(p)
	if e != api.OK || m.Segments() != at(p, 6)/2 {
		t.Errorf("%s: %v, %d segments", what, e, m.Segments())
	}
	return m
}

// wantLooks holds a Map against the bytes it is of, at all codes, and at some beyond.
func wantLooks(t *testing.T, what string, m seg.Map, p []byte) {
	t.Helper()
	for code := -3; code < 0x10000+3; code++ {
		if got := m.Look(rune(code)); int(got) != plainLook(p, code) {
			t.Fatalf("%s: Look(%x): %d, not %d", what, code, got, plainLook(p, code))
		}
	}
	for _, code := range []rune{math.MinInt32, -0x10000, -0xffff, 0x10041, 0x1ffff, 0x10ffff, math.MaxInt32} {
		if got := m.Look(code); got != 0 {
			t.Fatalf("%s: Look(%x): %d", what, code, got)
		}
	}
}

// samples are right tables with all that one may have.
func samples() [][]byte {
	last := span{0xffff, 0xffff, 1, 0}
	return [][]byte{
		plainTable([]span{last}),
		plainTable([]span{{0xffff, 0, 7, 0}}),
		plainTable([]span{{66, 65, 65474, 0}, last}),
		plainTable([]span{{67, 65, 2, 4}, last}, 9, 0, 8),
		plainTable([]span{{67, 65, 2, 6}, last}, 9, 0, 8, 7),
		plainTable([]span{{3, 0, 0, 0}, {9, 4, 65535, 4}, last}, 1, 65535, 0, 2, 65534, 3),
		plainTable([]span{{0, 0, 1, 8}, {2, 2, 5, 8}, {9, 4, 3, 0}, {0xffff, 0xfff0, 9, 4}}, 1, 2, 3, 4, 5, 6, 7, 8, 9, 10, 11, 12, 13, 14, 15, 65535, 0),
		plainTable([]span{{5, 5, 1, 2}, {8, 7, 2, 2}, {0xfffe, 0xfffd, 3, 0}, {0xffff, 0xffff, 4, 2}}, 1, 2),
	}
}

// P9.1: the example's table written out, byte for byte.
func TestParseWrittenOut(t *testing.T) {
	p := []byte("\x00\x04\x00\x20\x00\x00\x00\x04\x00\x04\x00\x01\x00\x00" +
		"\x00\x42\xff\xff\x00\x00\x00\x41\xff\xff\xff\xc2\x00\x01\x00\x00\x00\x00")
	m, e := seg.Parse(p)
	if e != api.OK || m.Segments() != 2 || m.Look(64) != 0 || m.Look(65) != 3 || m.Look(66) != 4 || m.Look(67) != 0 || m.Look(0xffff) != 0 {
		t.Errorf("%v, %d segments, %d, %d", e, m.Segments(), m.Look(65), m.Look(66))
	}
	if !bytes.Equal(p, seg.Build([]seg.Pair{{Code: 65, Glyph: 3}, {Code: 66, Glyph: 4}})) {
		t.Error("Build makes another")
	}
}

// P9.1, P9.2: right tables, at all codes.
func TestSamples(t *testing.T) {
	for i, p := range samples() {
		if !plainRight(p) {
			t.Fatalf("sample %d isn't right", i)
		}
		wantLooks(t, "a sample", wantRight(t, "a sample", p), p)
	}
}

// P9.1, P9.2: each byte of right tables as each other byte: wrong where the words say so, and else read.
func TestTurnedBytes(t *testing.T) {
	for _, p := range samples() {
		for i := range p {
			for b := range 256 {
				q := bytes.Clone(p)
				q[i] = byte(b)
				if !plainRight(q) {
					wantForm(t, "a turned byte", q)
					continue
				}
				m := wantRight(t, "a turned byte", q)
				for _, code := range []int{0, 1, 4, 5, 8, 9, 64, 65, 66, 67, 68, 255, 256, 0x4142, 0xfff0, 0xfffe, 0xffff} {
					if int(m.Look(rune(code))) != plainLook(q, code) {
						t.Fatalf("%x: Look(%x): %d", q, code, m.Look(rune(code)))
					}
				}
			}
		}
	}
}

// P9.1: cut short at any place a table is none; what stands behind it isn't looked at, however much it is.
func TestParseSizes(t *testing.T) {
	for _, p := range samples() {
		for n := range p {
			wantForm(t, "cut short", p[:n:n])
			wantForm(t, "cut short, with spare room", p[:n])
		}
		for _, more := range []int{1, 2, 3, 8, 70000} {
			q := append(bytes.Clone(p), bytes.Repeat([]byte{0xff}, more)...)
			wantLooks(t, "with bytes behind", wantRight(t, "with bytes behind", q), p)
		}
	}
	wantForm(t, "nil", nil)
	wantForm(t, "empty", []byte{})
}

// P9.1: each length: below 24 it is none, odd ones neither; a longer one has room behind its segments.
func TestParseLengths(t *testing.T) {
	p := append(plainTable([]span{{0xffff, 65, 1, 0}}), make([]byte, 65536)...)
	for length := 0; length < 65536; length++ {
		binary.BigEndian.PutUint16(p[2:], uint16(length))
		if length > 23 && length%2 == 0 {
			wantRight(t, "with a length", p)
		} else {
			wantForm(t, "with a length", p)
		}
		if length > 600 && length < 65200 {
			length += 50 // what lies between is much the same
		}
	}
	// A length above 23 that has no room for its two segments, of bytes that have.
	two := plainTable([]span{{66, 65, 1, 0}, {0xffff, 0xffff, 1, 0}})
	for length := range len(two) {
		binary.BigEndian.PutUint16(two[2:], uint16(length))
		wantForm(t, "too short a length", two)
	}
}

// P9.1: any language will do.
func TestParseLanguage(t *testing.T) {
	p := plainTable([]span{{66, 65, 1, 0}, {0xffff, 0xffff, 1, 0}})
	for _, language := range []int{1, 255, 256, 65535} {
		binary.BigEndian.PutUint16(p[4:], uint16(language))
		wantRight(t, "of a language", p)
	}
}

// P9.1: numbers of segments, with the three numbers that these ask for, up to as many as have room; and each of
// the three, one more or less.
func TestParseCounts(t *testing.T) {
	for _, n := range []int{1, 2, 3, 4, 5, 7, 8, 9, 15, 16, 17, 255, 256, 257, 4095, 4096, 4097, 8000, 8001, 8189} {
		var spans []span
		for i := range n - 1 {
			spans = append(spans, span{3*i + 1, 3 * i, i, 0})
		}
		p := plainTable(append(spans, span{0xffff, 0xffff, 1, 0}))
		m := wantRight(t, "of many", p)
		for i := 0; i < n-1; i += 1 + n/50 {
			if m.Look(rune(3*i)) != uint16(4*i) || m.Look(rune(3*i+1)) != uint16(4*i+1) || m.Look(rune(3*i+2)) != 0 {
				t.Errorf("of %d segments: the codes of %d: %d", n, i, m.Look(rune(3*i)))
			}
		}
		for _, place := range []int{8, 10, 12} {
			for _, more := range []int{-2, -1, 1, 2, 256} {
				q := bytes.Clone(p)
				binary.BigEndian.PutUint16(q[place:], uint16(at(p, place)+more))
				wantForm(t, "a wrong number of three", q)
			}
		}
	}
}

// P9.1: a table that says it has more segments than it can, whatever it says of the three numbers.
func TestParseNoRoom(t *testing.T) {
	p := plainTable([]span{{66, 65, 1, 0}, {0xffff, 0xffff, 1, 0}})
	for _, n := range []int{3, 4, 8189, 8190, 8191, 8192, 16384, 32767} {
		a, b, c := plainSearch(n)
		q := append(bytes.Clone(p), make([]byte, 70000)...)
		copy(q[6:], numbers(2*n, a, b, c))
		wantForm(t, "no room", q)
		binary.BigEndian.PutUint16(q[2:], 65534)
		wantForm(t, "no room in a long one", q)
	}
	for twice := range 16 {
		q := bytes.Clone(p)
		copy(q[6:], numbers(twice))
		if twice != 4 {
			wantForm(t, "another number of segments", q)
		}
		// With three numbers 0 there are no segments, either.
		copy(q[8:], numbers(0, 0, 0))
		wantForm(t, "three numbers 0", q)
	}
}

// P9.1: all Ends and Starts of two segments at the edges: just those in order are read.
func TestParseOrder(t *testing.T) {
	each := []int{0, 1, 2, 3, 0x7fff, 0x8000, 0xfffe, 0xffff}
	for n := range 8 * 8 * 8 * 8 {
		a, b, c, d := each[n&7], each[n>>3&7], each[n>>6&7], each[n>>9&7]
		p := plainTable([]span{{b, a, 1, 0}, {d, c, 2, 0}})
		if a <= b && b < c && c <= d && d == 0xffff {
			wantRight(t, "in order", p)
		} else {
			wantForm(t, "not in order", p)
		}
	}
	for n := range 4 * 4 * 4 * 4 {
		a, b, c, d := n&3, n>>2&3, n>>4&3, n>>6&3
		p := plainTable([]span{{b, a, 1, 0}, {d, c, 2, 0}, {0xffff, 4, 0, 0}})
		if a <= b && b < c && c <= d {
			wantLooks(t, "in order", wantRight(t, "in order", p), p)
		} else {
			wantForm(t, "not in order", p)
		}
	}
}

// P9.1: the number between Ends and Starts.
func TestParseBetween(t *testing.T) {
	p := plainTable([]span{{66, 65, 1, 0}, {0xffff, 0xffff, 1, 0}})
	for _, n := range []int{1, 2, 255, 256, 65535} {
		q := bytes.Clone(p)
		binary.BigEndian.PutUint16(q[18:], uint16(n))
		wantForm(t, "a number between", q)
	}
}

// P9.1, P9.2: each Offset, of each of two segments of one to three codes: odd ones, and those that lead out of the
// table at the last code, are wrong. An Offset may lead to other Offsets, too.
func TestParseOffsets(t *testing.T) {
	for first := range 3 {
		for offset := range 30 {
			p := plainTable([]span{{65 + first, 65, 5, offset}, {0xffff, 0xffff, 1, 0}}, 11, 12, 0, 14)
			if offset == 0 || offset%2 == 0 && offset+2*first+2 <= 12 {
				wantLooks(t, "an Offset", wantRight(t, "an Offset", p), p)
			} else {
				wantForm(t, "an Offset", p)
			}
			p = plainTable([]span{{65, 65, 5, 0}, {0xffff, 0xffff - first, 1, offset}}, 11, 12, 0, 14)
			if offset == 0 || offset%2 == 0 && offset+2*first+2 <= 10 {
				wantLooks(t, "a last Offset", wantRight(t, "a last Offset", p), p)
			} else {
				wantForm(t, "a last Offset", p)
			}
		}
	}
	for _, offset := range []int{0x7ffe, 0x7fff, 0x8000, 0x8001, 0xfffc, 0xfffd, 0xfffe, 0xffff} {
		wantForm(t, "a far Offset", plainTable([]span{{65, 65, 5, offset}, {0xffff, 0xffff, 1, 0}}, 11, 12))
	}
	// Within the bytes, but not within the table.
	p := append(plainTable([]span{{65, 65, 5, 4}, {0xffff, 0xffff, 1, 0}}), 0, 9)
	wantForm(t, "an Offset to what is behind", p)
	// All codes of two bytes have no room in a table.
	wantForm(t, "an Offset of all codes", plainTable([]span{{0xffff, 0, 0, 2}}, make([]int, 32000)...))
}

// P9.1, P9.2: a table as long as it can be, of glyphs in it.
func TestParseGreatest(t *testing.T) {
	glyphs := make([]int, 32767-16)
	for i := range glyphs {
		glyphs[i] = 7 * i % 65536
	}
	n := len(glyphs)
	p := plainTable([]span{{n - 1, 0, 40000, 4}, {0xffff, 0xffff, 1, 0}}, glyphs...)
	if len(p) != 65534 {
		t.Fatalf("%d bytes", len(p))
	}
	wantLooks(t, "the greatest", wantRight(t, "the greatest", p), p)
	wantForm(t, "one code more", plainTable([]span{{n, 0, 40000, 4}, {0xffff, 0xffff, 1, 0}}, glyphs...))
}

// P9.2: sums wrap round; a 0 in the table stays 0, whatever Delta is, and one that comes round to 0 is 0, too.
func TestLook(t *testing.T) {
	p := plainTable([]span{{10, 10, 65535, 0}, {20, 20, 65516, 0}, {33, 30, 65535, 4}, {0xffff, 40, 65535, 0}}, 0, 1, 65535, 2)
	m := wantRight(t, "sums", p)
	for code, want := range map[rune]uint16{
		0: 0, 9: 0, 10: 9, 11: 0, 20: 0, 21: 0, 29: 0, 30: 0, 31: 0, 32: 65534, 33: 1, 34: 0, 39: 0, 40: 39, 0xffff: 65534,
		-1: 0, -65526: 0, 65546: 0, 0x10000: 0, math.MaxInt32: 0, math.MinInt32: 0,
	} {
		if got := m.Look(code); got != want {
			t.Errorf("Look(%d): %d", code, got)
		}
	}
}

// P9.2: a Map of nothing tells nothing.
func TestNothing(t *testing.T) {
	var m seg.Map
	for _, code := range []rune{math.MinInt32, -1, 0, 65, 0xffff, 0x10000, math.MaxInt32} {
		if m.Look(code) != 0 || m.Segments() != 0 {
			t.Errorf("Look(%d): %d, of %d segments", code, m.Look(code), m.Segments())
		}
	}
}

// P9.1, P9.2: tables made by a rule from any number, turned at a place or two.
func TestMixed(t *testing.T) {
	state := uint32(1)
	next := func(n int) int {
		state = state*1664525 + 1013904223
		return int(state>>8) % n
	}
	right := 0
	for range 30000 {
		var spans []span
		code := next(3)
		for range next(5) {
			s := span{start: code, end: code + next(4), delta: next(65536)}
			if next(2) == 0 {
				s.offset = 2 * next(12)
			}
			spans = append(spans, s)
			code = s.end + 1 + next(3)
		}
		spans = append(spans, span{0xffff, 0xffff - next(3), next(3), 2 * next(3)})
		var glyphs []int
		for range next(16) {
			glyphs = append(glyphs, next(65536)*next(2))
		}
		p := plainTable(spans, glyphs...)
		for range next(3) {
			p[next(len(p))] = byte(next(256))
		}
		if !plainRight(p) {
			wantForm(t, "mixed", p)
			continue
		}
		right++
		m := wantRight(t, "mixed", p)
		for code := -1; code < 40; code++ {
			if int(m.Look(rune(code))) != plainLook(p, code) {
				t.Fatalf("%x: Look(%d): %d", p, code, m.Look(rune(code)))
			}
		}
		if int(m.Look(0xffff)) != plainLook(p, 0xffff) || int(m.Look(0xfffe)) != plainLook(p, 0xfffe) {
			t.Fatalf("%x: the last: %d", p, m.Look(0xffff))
		}
	}
	if right < 5000 || right > 25000 {
		t.Errorf("%d of 30000 are right", right)
	}
}

// P9.3: tables written out; of no pairs there is the last segment alone.
func TestBuildWrittenOut(t *testing.T) {
	for _, c := range []struct {
		l []seg.Pair
		p string
	}{
		{nil, "\x00\x04\x00\x18\x00\x00\x00\x02\x00\x02\x00\x00\x00\x00\xff\xff\x00\x00\xff\xff\x00\x01\x00\x00"},
		{[]seg.Pair{}, "\x00\x04\x00\x18\x00\x00\x00\x02\x00\x02\x00\x00\x00\x00\xff\xff\x00\x00\xff\xff\x00\x01\x00\x00"},
		{[]seg.Pair{{0, 0}}, "\x00\x04\x00\x20\x00\x00\x00\x04\x00\x04\x00\x01\x00\x00\x00\x00\xff\xff\x00\x00\x00\x00\xff\xff\x00\x00\x00\x01\x00\x00\x00\x00"},
		{[]seg.Pair{{65, 3}, {66, 4}, {70, 1}}, "\x00\x04\x00\x28\x00\x00\x00\x06\x00\x04\x00\x01\x00\x02\x00\x42\x00\x46\xff\xff\x00\x00\x00\x41\x00\x46\xff\xff\xff\xc2\xff\xbb\x00\x01\x00\x00\x00\x00\x00\x00"},
		{[]seg.Pair{{0xfffd, 0xffff}, {0xfffe, 0}}, "\x00\x04\x00\x20\x00\x00\x00\x04\x00\x04\x00\x01\x00\x00\xff\xfe\xff\xff\x00\x00\xff\xfd\xff\xff\x00\x02\x00\x01\x00\x00\x00\x00"},
	} {
		if p := seg.Build(c.l); string(p) != c.p {
			t.Errorf("%v: %x", c.l, p)
		}
	}
}

// P9.3: all choices of glyphs for codes near each other: as few segments as runs, and each pair is read again.
func TestBuildRuns(t *testing.T) {
	glyphs := []int{-1, 0, 1, 2, 0xfffe, 0xffff}
	for n := range 6 * 6 * 6 * 6 {
		var l []seg.Pair
		for i, k := range []int{n % 6, n / 6 % 6, n / 36 % 6, n / 216} {
			if glyphs[k] >= 0 {
				l = append(l, seg.Pair{Code: rune(64 + i), Glyph: uint16(glyphs[k])})
			}
		}
		p := seg.Build(l)
		if !bytes.Equal(p, plainBuild(l)) {
			t.Fatalf("%v: %x", l, p)
		}
		if m := wantRight(t, "built", p); m.Segments() != plainRuns(l)+1 {
			t.Fatalf("%v: %d segments", l, m.Segments())
		}
		wantPairs(t, p, l)
	}
}

// wantPairs asks a table for just these pairs.
func wantPairs(t *testing.T, p []byte, l []seg.Pair) {
	t.Helper()
	m := wantRight(t, "of pairs", p)
	want := map[rune]uint16{}
	for _, p := range l {
		want[p.Code] = p.Glyph
	}
	step := rune(1)
	if len(l) < 10 {
		step = 13 // there are many such lists
	}
	for code := rune(-1); code <= 0x10000; code += step {
		if m.Look(code) != want[code] {
			t.Fatalf("Look(%x): %d, not %d", code, m.Look(code), want[code])
		}
	}
	for code, glyph := range want {
		if m.Look(code) != glyph {
			t.Fatalf("Look(%x): %d, not %d", code, m.Look(code), glyph)
		}
	}
}

// P9.3: one run of all codes below ffff, whose glyphs go round.
func TestBuildOneRun(t *testing.T) {
	var l []seg.Pair
	for code := range 0xffff {
		l = append(l, seg.Pair{Code: rune(code), Glyph: uint16(code + 1000)})
	}
	p := seg.Build(l)
	if len(p) != 32 || !bytes.Equal(p, plainBuild(l)) {
		t.Fatalf("%d bytes", len(p))
	}
	wantPairs(t, p, l)
}

// P9.3: 8000 segments, the last one among them, are as many as may be.
func TestBuildMany(t *testing.T) {
	var l []seg.Pair
	for i := range 32767 {
		l = append(l, seg.Pair{Code: rune(2 * i), Glyph: uint16(i)})
	}
	for _, n := range []int{1, 2, 3, 4, 5, 100, 1023, 1024, 4095, 4096, 7998, 7999} {
		p := seg.Build(l[:n])
		if len(p) != 16+8*(n+1) || !bytes.Equal(p, plainBuild(l[:n])) {
			t.Errorf("of %d: %d bytes", n, len(p))
			continue
		}
		wantPairs(t, p, l[:n])
	}
	for _, n := range []int{8000, 8001, 8189, 8190, 8191, 8192, 16000, 32767} {
		if p := seg.Build(l[:n]); len(p) != 0 {
			t.Errorf("of %d: %d bytes", n, len(p))
		}
	}
	// It is segments that are counted, not pairs.
	var all []seg.Pair
	for i := range 7999 * 8 {
		all = append(all, seg.Pair{Code: rune(i), Glyph: uint16(i + i/8)})
	}
	if p := seg.Build(all); len(p) != 64016 || !bytes.Equal(p, plainBuild(all)) {
		t.Errorf("of 7999 runs of 8: %d bytes", len(p))
	}
	all = append(all, seg.Pair{Code: 64000})
	if p := seg.Build(all); len(p) != 0 {
		t.Errorf("of 8000 runs: %d bytes", len(p))
	}
}

// falls are lists whose codes don't rise from 0 to 10ffff.
func falls() [][]seg.Pair {
	return [][]seg.Pair{
		{{-1, 1}},
		{{math.MinInt32, 1}},
		{{-1, 1}, {0, 2}},
		{{65, 1}, {65, 1}},
		{{65, 1}, {65, 2}},
		{{65, 1}, {64, 2}},
		{{65, 1}, {66, 2}, {66, 3}},
		{{65, 1}, {66, 2}, {65, 3}},
		{{65, 1}, {66, 2}, {-1, 3}},
		{{0, 1}, {0, 2}},
		{{math.MaxInt32, 1}, {math.MinInt32, 2}},
		{{math.MaxInt32, 1}},
		{{65, 1}, {0x110000, 2}},
	}
}

// P9.3: nothing of pairs that don't Rise below ffff.
func TestBuildOthers(t *testing.T) {
	for _, l := range append(falls(),
		[]seg.Pair{{0xffff, 0}},
		[]seg.Pair{{0xffff, 1}},
		[]seg.Pair{{65, 3}, {0xffff, 1}},
		[]seg.Pair{{0xfffe, 0xffff}, {0xffff, 0}},
		[]seg.Pair{{0x10000, 1}},
		[]seg.Pair{{0x10041, 1}},
		[]seg.Pair{{65, 3}, {0x1f600, 1}},
	) {
		if p := seg.Build(l); len(p) != 0 {
			t.Errorf("%v: %x", l, p)
		}
	}
}

// P9.3: Rises, at all edges.
func TestRises(t *testing.T) {
	for _, l := range falls() {
		if seg.Rises(l, 0x10ffff) {
			t.Errorf("%v rises", l)
		}
	}
	for _, most := range []rune{math.MinInt32, -2, -1, 0, 1, math.MaxInt32} {
		if !seg.Rises(nil, most) || !seg.Rises([]seg.Pair{}, most) {
			t.Errorf("none up to %d don't rise", most)
		}
	}
	for n := range 6 * 6 * 6 {
		a, b, c := rune(n%6-2), rune(n/6%6-2), rune(n/36-2)
		for most := rune(-3); most < 5; most++ {
			want := 0 <= a && a < b && b < c && c <= most
			if seg.Rises([]seg.Pair{{a, 7}, {b, 7}, {c, 1}}, most) != want {
				t.Errorf("%d, %d, %d up to %d: %v", a, b, c, most, !want)
			}
			if seg.Rises([]seg.Pair{{Code: a}}, most) != (0 <= a && a <= most) {
				t.Errorf("%d up to %d", a, most)
			}
		}
	}
	top := []seg.Pair{{Code: 0}, {Code: math.MaxInt32 - 1}, {Code: math.MaxInt32}}
	if !seg.Rises(top, math.MaxInt32) || seg.Rises(top, math.MaxInt32-1) || seg.Rises(top, -1) {
		t.Error("at the greatest")
	}
}

// Rules 'Memory' and 'Values': what is handed in stays as it is and isn't kept, answers share nothing, and Maps
// are apart.
func TestMemory(t *testing.T) {
	p := append(plainTable([]span{{67, 65, 2, 4}, {0xffff, 0xffff, 1, 0}}, 9, 0, 8), "spare"...)
	whole, kept := bytes.Clone(p), p[:38:38]
	m := wantRight(t, "ahead", p[:38])
	other := wantRight(t, "ahead", kept)
	if !bytes.Equal(p, whole) {
		t.Fatalf("Parse changed: %x", p)
	}
	copy(p, plainTable([]span{{80, 60, 1, 0}, {0xffff, 0xffff, 1, 0}}, 1, 1, 1))
	third := wantRight(t, "written over", p)
	wantLooks(t, "kept", m, whole)
	wantLooks(t, "kept", other, whole)
	if third.Look(65) != 66 {
		t.Errorf("another Map: %d", third.Look(65))
	}
	m, _ = seg.Parse(nil)
	if m.Segments() != 0 || other.Segments() != 2 {
		t.Errorf("%d, %d segments", m.Segments(), other.Segments())
	}
}

// Rule 'Memory': what Build is handed, and what it answers.
func TestBuildMemory(t *testing.T) {
	l := []seg.Pair{{65, 3}, {66, 4}, {70, 1}, {1, 1}}
	kept := slices.Clone(l)
	first, second := seg.Build(l[:3]), seg.Build(l[:3])
	want := bytes.Clone(first)
	if !seg.Rises(l[:3], 70) || !slices.Equal(l, kept) {
		t.Fatalf("changed: %v", l)
	}
	for i := range l {
		l[i] = seg.Pair{}
	}
	second = second[:cap(second)]
	for i := range second {
		second[i] = '#'
	}
	if !bytes.Equal(first, want) {
		t.Fatalf("kept or shared: %x", first)
	}
}
