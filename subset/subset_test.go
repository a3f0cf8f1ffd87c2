package subset_test

import (
	"bytes"
	"math"
	"runtime"
	"slices"
	"sync"
	"testing"

	"punchcut/api"
	"punchcut/compo"
	"punchcut/dot"
	"punchcut/flat"
	"punchcut/font"
	"punchcut/head"
	"punchcut/hmtx"
	"punchcut/maxp"
	"punchcut/reach"
	"punchcut/seg"
	"punchcut/simple"
	"punchcut/subset"
	"punchcut/tally"
)

// The limits, as the document tells them.
const (
	mostIds  = 65535
	mostCode = 0x10ffff
)

// source is what a font is made from.
type source struct {
	head    head.Head
	hhea    hmtx.Hhea
	maxp    maxp.Maxp
	glyphs  [][]byte
	metrics []hmtx.Metric
	codes   []seg.Pair
	wide    bool
}

// corner is a glyph of three points; x makes it another one. It has an even number of bytes, if x is far.
func corner(x int16) []byte {
	points := []simple.Spot{{On: true}, {X: x, On: true}, {X: x, Y: 20}}
	return simple.Glyph{Box: [4]int16{0, 0, x, 20}, Ends: []uint16{2}, Points: points}.Bytes()
}

// made is a glyph made of others, each ten beside the one ahead.
func made(ids ...uint16) []byte {
	var g compo.Glyph
	for i, id := range ids {
		p := compo.Part{Flags: compo.Places | compo.Words, Glyph: id, X: int16(10 * i), M: dot.Unit()}
		g.Parts = append(g.Parts, p)
	}
	return g.Bytes()
}

// of is a font's source with these glyphs: A has the glyph 1, B 2, and so on.
func of(glyphs ...[]byte) source {
	s := source{head: head.Head{Units: 1000}, glyphs: glyphs}
	for i := range glyphs {
		s.metrics = append(s.metrics, hmtx.Metric{Advance: uint16(500 + i), Left: int16(-i)})
		if i > 0 {
			s.codes = append(s.codes, seg.Pair{Code: 'A' + rune(i) - 1, Glyph: uint16(i)})
		}
	}
	return s
}

// full is a source with something of all kinds: no bytes, parts, parts of parts, numbers in all fields.
func full() source {
	s := of(nil, corner(7), corner(300), made(1, 2, 1), nil, made(3, 4), corner(9), made(5, 6, 0))
	s.head = head.Head{Revision: 0x01020304, Flags: 0x0506, Units: 1200, Created: 0x0708090a0b0c0d0e,
		Modified: 0x0f10111213141516, Box: [4]int16{-5, 6, -7, 8}, Style: 0x1718, Lowest: 0x191a, Hint: -2}
	for i := range 14 {
		s.hhea.Front[1+i] = uint16(0x2122 + 0x0202*i)
	}
	for i := range s.maxp.Rest {
		s.maxp.Rest[i] = uint16(0x4142 + 0x0202*i)
	}
	s.metrics[7].Advance = s.metrics[6].Advance
	s.codes = append(s.codes, seg.Pair{Code: 0xffff, Glyph: 2}, seg.Pair{Code: 0x1f445, Glyph: 2}, seg.Pair{Code: mostCode, Glyph: 5})
	s.wide = true
	return s
}

func (s source) bytes() []byte {
	return font.Make(s.head, s.hhea, s.maxp, s.glyphs, s.metrics, s.codes, s.wide)
}

// open is the source's font, which has to be Valid.
func (s source) open(t *testing.T) *font.Font {
	t.Helper()
	f := font.Open(s.bytes())
	if e := f.Err(); e != api.OK {
		t.Fatalf("the font: %v", e)
	}
	return f
}

// even is the bytes, with a nought behind them if they aren't even.
func even(p []byte) []byte {
	return append(slices.Clone(p), make([]byte, len(p)%2)...)
}

// plainGlyph is Glyph by the words of P17.1, in the bytes themselves: where a part's glyph stands (P13.2), another
// number is laid.
func (s source) plainGlyph(p reach.Plan, i int) ([]byte, bool) {
	if i < 0 || i >= len(p.Olds) || int(p.Olds[i]) >= len(s.glyphs) {
		return nil, false
	}
	g := even(s.glyphs[p.Olds[i]])
	if len(g) == 0 || g[0] < 0x80 {
		return g, true
	}
	at := 10
	for goesOn := true; goesOn; {
		flags := int(g[at])<<8 | int(g[at+1])
		id := slices.Index(p.Olds, uint16(g[at+2])<<8|uint16(g[at+3]))
		if id < 0 || id > mostIds {
			return nil, false
		}
		g[at+2], g[at+3] = byte(id>>8), byte(id)
		at += 4 + 2 + 2*(flags&1) + 2*(flags>>3&1) + 4*(flags>>6&1) + 8*(flags>>7&1)
		goesOn = flags&0x20 != 0
		if flags&0x100 != 0 {
			at += 2 + int(g[at])<<8 + int(g[at+1])
		}
	}
	return g[:at], true
}

// plainCut is Cut by the words of P17.1, of a source's font, which is Valid.
func (s source) plainCut(p reach.Plan) ([]byte, api.Errno) {
	var c source
	c.head, c.hhea, c.maxp = s.head, s.hhea, s.maxp
	for i, old := range p.Olds {
		g, ok := s.plainGlyph(p, i)
		if !ok {
			return nil, api.ErrArg
		}
		c.glyphs = append(c.glyphs, g)
		c.metrics = append(c.metrics, s.metrics[old])
	}
	for i, pair := range p.Codes {
		if pair.Code < 0 || pair.Code > mostCode || i > 0 && pair.Code <= p.Codes[i-1].Code || int(pair.Glyph) >= len(p.Olds) {
			return nil, api.ErrArg
		}
	}
	if len(p.Olds) == 0 {
		return nil, api.ErrArg
	}
	c.codes, c.wide = p.Codes, true
	return c.bytes(), api.OK
}

// plan is a plan of these old glyphs; A has the new glyph 1, B 2, and so on, up to n codes.
func plan(n int, olds ...uint16) reach.Plan {
	p := reach.Plan{Olds: olds}
	for i := range n {
		p.Codes = append(p.Codes, seg.Pair{Code: 'A' + rune(i), Glyph: uint16(i + 1)})
	}
	return p
}

func wantGlyph(t *testing.T, what string, f *font.Font, p reach.Plan, i int, want []byte) {
	t.Helper()
	if g, ok := subset.Glyph(f, p, i); !ok || !bytes.Equal(g, want) {
		t.Errorf("%s: % x, %v, not % x", what, g, ok, want)
	}
}

func wantNoGlyph(t *testing.T, what string, f *font.Font, p reach.Plan, i int) {
	t.Helper()
	if g, ok := subset.Glyph(f, p, i); ok || len(g) != 0 {
		t.Errorf("%s: % x, %v", what, g, ok)
	}
}

// wantCut asks Cut for just these bytes.
func wantCut(t *testing.T, what string, f *font.Font, p reach.Plan, want []byte) {
	t.Helper()
	if g, e := subset.Cut(f, p); e != api.OK || !bytes.Equal(g, want) {
		t.Errorf("%s: %.400x, %v, not %.400x", what, g, e, want)
	}
}

// wantErr asks Cut for an error, and no bytes.
func wantErr(t *testing.T, what string, f *font.Font, p reach.Plan, want api.Errno) {
	t.Helper()
	if g, e := subset.Cut(f, p); e != want || len(g) != 0 {
		t.Errorf("%s: %.400x, %v, not %v", what, g, e, want)
	}
}

// wantNoText asks Of for an error, no bytes, and no plan.
func wantNoText(t *testing.T, what string, f []byte, text []rune, want api.Errno) {
	t.Helper()
	if g, p, e := subset.Of(f, text); e != want || len(g) != 0 || len(p.Olds) != 0 || len(p.Codes) != 0 {
		t.Errorf("%s: %.400x, %v, %v, not %v", what, g, p, e, want)
	}
}

// wantText asks Of for what is cut by the words, and whether it is what P17.2 promises.
func (s source) wantText(t *testing.T, text []rune) {
	t.Helper()
	f := s.open(t)
	g, p, e := subset.Of(s.bytes(), text)
	plan, _ := reach.New(f, text)
	want, _ := s.plainCut(plan)
	if e != api.OK || !reach.Same(p, plan) || !bytes.Equal(g, want) {
		t.Fatalf("%q: %.400x, %v, %v, not %.400x, %v", string(text), g, p, e, want, plan)
	}
	wantAsItWas(t, f, g, p, text)
}

// wantAsItWas tells whether what was cut is a font of the old outlines and advances, each code with its own glyph.
func wantAsItWas(t *testing.T, f *font.Font, g []byte, p reach.Plan, text []rune) {
	t.Helper()
	cut := font.Open(g)
	if font.Valid(g) != api.OK || tally.Sum(g) != tally.Whole || cut.Count() != len(p.Olds) {
		t.Fatalf("%q: %v, %d glyphs", string(text), font.Valid(g), cut.Count())
	}
	for i, old := range p.Olds {
		a, _ := f.Metric(int(old))
		b, _ := cut.Metric(i)
		if a != b || !flat.Same(f.Outline(int(old)), cut.Outline(i)) {
			t.Errorf("%q: glyph %d: %v, %v, not %v, %v", string(text), i, b, cut.Outline(i), a, f.Outline(int(old)))
		}
	}
	owners := make(map[uint16]rune)
	for _, c := range text {
		id := cut.Look(c)
		if owner, taken := owners[id]; id == 0 || taken && owner != c || p.Olds[id] != f.Look(c) {
			t.Errorf("%q: %x has %d", string(text), c, id)
		}
		owners[id] = c
	}
}

// scribble writes over a list and over its spare room.
func scribble[T any](l []T, with T) {
	l = l[:cap(l)]
	for i := range l {
		l[i] = with
	}
}

// mixer is a row of numbers that looks as if it had no rule.
func mixer() func(n int) int {
	state := uint32(17)
	return func(n int) int {
		state = state*1664525 + 1013904223
		return int(state>>8) % n
	}
}

// P17.1: the document's example: of a font, and no text: one glyph.
func TestExample(t *testing.T) {
	for _, s := range []source{of(nil), of(nil, corner(1)), full()} {
		g, p, e := subset.Of(s.bytes(), nil)
		if e != api.OK || font.Open(g).Count() != 1 || !slices.Equal(p.Olds, []uint16{0}) || len(p.Codes) != 0 {
			t.Errorf("%v, %v", p, e)
		}
		s.wantText(t, []rune{})
	}
}

// parted is a glyph with parts of all kinds, byte by byte: 3, 1, 2, 258, 1, with a program of three bytes. Flags that
// mean nothing are kept.
var parted = []byte{0xff, 0xff, 0, 1, 0xff, 0xfe, 0, 3, 0, 4,
	0x00, 0x27, 0, 3, 1, 2, 0xff, 0xfe,
	0x12, 0x22, 0, 1, 0x7f, 0x80,
	0x04, 0x2a, 0, 2, 1, 2, 0x20, 0,
	0x00, 0x63, 1, 2, 0, 9, 0, 8, 0x40, 0, 0xc0, 0,
	0x01, 0x82, 0, 1, 5, 6, 0x40, 0, 0, 1, 0, 2, 0x20, 0,
	0, 3, 0xb0, 0xb1, 0xb2}

// partedAt is where the numbers of its parts' glyphs stand.
var partedAt = [...]int{12, 20, 26, 34, 46}

// partedWith is that glyph with other numbers.
func partedWith(ids ...uint16) []byte {
	p := slices.Clone(parted)
	for i, id := range ids {
		p[partedAt[i]], p[partedAt[i]+1] = byte(id>>8), byte(id)
	}
	return p
}

// ofParted is a font's source with that glyph as 4, and again, with n noughts behind it, as 5.
func ofParted(n int) source {
	glyphs := make([][]byte, 300)
	glyphs[1], glyphs[2], glyphs[3], glyphs[258] = corner(1), corner(2), corner(3), corner(4)
	glyphs[4], glyphs[5] = parted, append(slices.Clone(parted), make([]byte, n)...)
	return of(glyphs...)
}

// P17.1: of a glyph that is made of parts, these have the plan's numbers; all else is as it was, but for noughts
// behind it.
func TestGlyphParts(t *testing.T) {
	for n := range 3 {
		s := ofParted(n)
		f := s.open(t)
		for _, id := range []uint16{4, 5} {
			wantGlyph(t, "moved", f, plan(0, 0, 258, id, 3, 1, 2), 2, partedWith(3, 4, 5, 1, 4))
			wantGlyph(t, "falling", f, plan(0, 258, 3, 2, 1, id), 4, partedWith(1, 3, 2, 0, 3))
			wantGlyph(t, "the first one of two", f, plan(0, 1, 2, 3, 258, 258, 3, 2, 1, id), 8, partedWith(2, 0, 1, 3, 0))
			wantGlyph(t, "of two of its own", f, plan(3, id, id, 1, 2, 3, 258), 1, partedWith(4, 2, 3, 5, 2))
			for _, olds := range [][]uint16{{id}, {id, 1, 2, 3}, {id, 1, 2, 258}, {id, 1, 3, 258}, {id, 2, 3, 258}, {id, 1, 2, 3, 257}} {
				wantNoGlyph(t, "a part isn't there", f, plan(0, olds...), 0)
			}
		}
		p := plan(0, 9, 5, 8, 3, 300, 1, 7, 258, 2, 6, 65535)
		for i := -2; i < 13; i++ {
			if want, ok := s.plainGlyph(p, i); ok {
				wantGlyph(t, "by the words", f, p, i, want)
			} else {
				wantNoGlyph(t, "by the words", f, p, i)
			}
		}
	}
}

// P17.1: parts of parts are looked up as they stand, whatever they are made of.
func TestGlyphDeep(t *testing.T) {
	f := of(nil, corner(1), made(1), made(2, 1), made(3, 0)).open(t)
	wantGlyph(t, "deep", f, plan(0, 0, 4, 3), 1, made(2, 0))
	wantGlyph(t, "deeper", f, plan(0, 0, 2, 1, 3), 3, made(1, 2))
	wantNoGlyph(t, "of the parts none", f, plan(0, 0, 4, 2, 1), 1)
}

// P17.1: who has no parts has the bytes as they are.
func TestGlyphWhole(t *testing.T) {
	odd := corner(7)
	if len(odd)%2 == 0 {
		t.Fatal(len(odd))
	}
	filled := append(slices.Clone(odd), 0, 0, 0)
	f := of(nil, odd, filled, corner(300), made(1)).open(t)
	p := plan(0, 3, 2, 1, 0, 5, 2, 4)
	for i, want := range [][]byte{corner(300), filled, even(odd), nil, nil, filled, made(2)} {
		if i == 4 {
			wantNoGlyph(t, "none", f, p, i)
			continue
		}
		wantGlyph(t, "whole", f, p, i, want)
	}
}

// P17.1: false: there is no new glyph of that number, or no old one.
func TestGlyphNone(t *testing.T) {
	s := full()
	f := s.open(t)
	p := plan(0, 0, 7, 8, 65535, 1)
	for _, i := range []int{math.MinInt, -65536, -2, -1, 2, 3, 5, 6, 65536, math.MaxInt} {
		wantNoGlyph(t, "none", f, p, i)
	}
	wantGlyph(t, "the last one", f, p, 4, even(corner(7)))
	wantGlyph(t, "the first one, that is empty", f, p, 0, nil)
	wantNoGlyph(t, "no plan", f, reach.Plan{}, 0)
	broken := s.bytes()
	broken[len(broken)-1]++
	for what, f := range map[string]*font.Font{"nil": nil, "no bytes": font.Open(nil), "broken": font.Open(broken)} {
		wantNoGlyph(t, what, f, p, 0)
		wantNoGlyph(t, what, f, reach.Plan{}, 0)
	}
}

// P17.1: a new glyph has a number of two bytes: who stands behind these doesn't stand for a part.
func TestGlyphFar(t *testing.T) {
	s := of(nil, corner(1), made(1))
	f := s.open(t)
	p := reach.Plan{Olds: make([]uint16, 1<<16+9)}
	p.Olds[0], p.Olds[1<<16], p.Olds[1<<16+1] = 2, 2, 1
	wantNoGlyph(t, "a part that is too far", f, p, 0)
	wantNoGlyph(t, "it too", f, p, 1<<16)
	wantGlyph(t, "a far one", f, p, 1<<16+1, even(corner(1)))
	wantErr(t, "a far part", f, p, api.ErrArg)
	p.Olds[1<<16-1] = 1
	wantGlyph(t, "the last number", f, p, 0, made(65535))
	wantGlyph(t, "the last number, of a far one", f, p, 1<<16, made(65535))
	// More glyphs than a font may have: there is no such font, but no fault in the plan either.
	wantCut(t, "too many", f, p, nil)
	p.Olds = p.Olds[:mostIds]
	wantErr(t, "just as many, without the part", f, p, api.ErrArg)
	p.Olds[mostIds-1] = 1
	g, e := subset.Cut(f, p)
	if e != api.OK || font.Valid(g) != api.OK {
		t.Error(e, font.Valid(g))
	}
	wantAsItWas(t, f, g, p, nil)
}

// P17.1: what is cut is made of the font's own numbers, these glyphs, their metrics, and the plan's codes.
func TestCut(t *testing.T) {
	s := full()
	f := s.open(t)
	for _, c := range []struct {
		what string
		p    reach.Plan
	}{
		{"one", plan(0, 0)},
		{"one, that isn't 0", plan(0, 6)},
		{"none made of parts", plan(2, 0, 2, 6)},
		{"one glyph twice", plan(2, 0, 2, 2)},
		{"0 among the others", plan(3, 1, 0, 4, 0)},
		{"parts", plan(1, 0, 3, 1, 2)},
		{"parts ahead", plan(1, 2, 1, 3)},
		{"parts that stand twice", plan(4, 1, 2, 3, 1, 2, 3)},
		{"all", plan(7, 0, 1, 2, 3, 4, 5, 6, 7)},
		{"all, falling", plan(7, 7, 6, 5, 4, 3, 2, 1, 0)},
		{"all codes of one", reach.Plan{Olds: []uint16{0, 6}, Codes: []seg.Pair{{Code: 3, Glyph: 1}, {Code: 4, Glyph: 1}}}},
		{"a code of 0", reach.Plan{Olds: []uint16{0, 6}, Codes: []seg.Pair{{Code: 3, Glyph: 0}}}},
		{"far codes", reach.Plan{Olds: []uint16{0, 6, 1}, Codes: []seg.Pair{{Code: 0, Glyph: 1}, {Code: 0xd800, Glyph: 1}, {Code: 0xffff, Glyph: 2},
			{Code: 0x10000, Glyph: 2}, {Code: mostCode, Glyph: 1}}}},
	} {
		want, e := s.plainCut(c.p)
		if e != api.OK || len(want) == 0 {
			t.Errorf("%s, by the words: %v", c.what, e)
		}
		wantCut(t, c.what, f, c.p, want)
		wantAsItWas(t, f, want, c.p, nil)
		cut := font.Open(want)
		for _, pair := range c.p.Codes {
			if cut.Look(pair.Code) != pair.Glyph {
				t.Errorf("%s: %v: %d", c.what, pair, cut.Look(pair.Code))
			}
		}
		for i := range c.p.Olds {
			g, ok := subset.Glyph(f, c.p, i)
			if !ok || !bytes.Equal(even(g), cut.Raw(i)) {
				t.Errorf("%s: the glyph %d: % x, %v, not % x", c.what, i, g, ok, cut.Raw(i))
			}
		}
	}
}

// P17.1: noughts behind the parts are left out; those behind points aren't.
func TestCutFilled(t *testing.T) {
	for n := range 3 {
		s := ofParted(n)
		f := s.open(t)
		for _, p := range []reach.Plan{plan(2, 0, 4, 5, 1, 2, 3, 258), plan(2, 258, 3, 5, 2, 1, 4)} {
			want, _ := s.plainCut(p)
			wantCut(t, "parts of all kinds", f, p, want)
			wantAsItWas(t, f, want, p, nil)
		}
	}
}

// P17.1: ErrArg: of the plan something isn't there, or its codes don't rise.
func TestCutErrArg(t *testing.T) {
	s := full()
	f := s.open(t)
	codes := func(l ...seg.Pair) reach.Plan { return reach.Plan{Olds: []uint16{0, 1, 2}, Codes: l} }
	for _, c := range []struct {
		what string
		p    reach.Plan
	}{
		{"no plan", reach.Plan{}},
		{"no olds", reach.Plan{Olds: []uint16{}}},
		{"no olds, but codes", reach.Plan{Codes: []seg.Pair{{Code: 65, Glyph: 0}}}},
		{"an old that isn't there", plan(0, 8)},
		{"far from there", plan(0, 65535)},
		{"the last old", plan(2, 0, 1, 8)},
		{"one in the middle", plan(2, 0, 8, 1)},
		{"codes fall", codes(seg.Pair{Code: 66, Glyph: 1}, seg.Pair{Code: 65, Glyph: 2})},
		{"a code twice", codes(seg.Pair{Code: 65, Glyph: 1}, seg.Pair{Code: 65, Glyph: 2})},
		{"a code twice, alike", codes(seg.Pair{Code: 65, Glyph: 1}, seg.Pair{Code: 65, Glyph: 1})},
		{"the last code falls", codes(seg.Pair{Code: 65, Glyph: 1}, seg.Pair{Code: 67, Glyph: 1}, seg.Pair{Code: 66, Glyph: 1})},
		{"a code below 0", codes(seg.Pair{Code: -1, Glyph: 1}, seg.Pair{Code: 65, Glyph: 1})},
		{"far below 0", codes(seg.Pair{Code: math.MinInt32, Glyph: 1})},
		{"a code too far", codes(seg.Pair{Code: 65, Glyph: 1}, seg.Pair{Code: mostCode + 1, Glyph: 1})},
		{"far too far", codes(seg.Pair{Code: math.MaxInt32, Glyph: 1})},
		{"a new glyph that isn't there", codes(seg.Pair{Code: 65, Glyph: 3})},
		{"the last new glyph", codes(seg.Pair{Code: 65, Glyph: 2}, seg.Pair{Code: 66, Glyph: 3})},
		{"the first new glyph", codes(seg.Pair{Code: 65, Glyph: 65535}, seg.Pair{Code: 66, Glyph: 2})},
		{"a part that isn't there", plan(1, 0, 3, 1)},
		{"another one", plan(1, 0, 3, 2)},
		{"a part of a part", plan(1, 0, 5, 3, 4, 1)},
		{"a part of the last one", plan(1, 0, 1, 2, 4, 5)},
		{"a part of one that stands twice", plan(1, 0, 3, 3, 2)},
	} {
		wantErr(t, c.what, f, c.p, api.ErrArg)
		if g, e := s.plainCut(c.p); len(g) != 0 || e != api.ErrArg {
			t.Errorf("%s, by the words: %v", c.what, e)
		}
	}
}

// P17.1: the font's own error is ahead of the plan's.
func TestCutErrFont(t *testing.T) {
	broken := of(nil, corner(1)).bytes()
	broken[len(broken)-1]++
	for _, c := range []struct {
		what string
		f    *font.Font
		want api.Errno
	}{
		{"nil", nil, api.ErrNone},
		{"no bytes", font.Open(nil), api.ErrForm},
		{"a sum", font.Open(broken), api.ErrSum},
		{"too long", font.Open(make([]byte, api.MaxBytes+1)), api.ErrLong},
		{"a glyph's part", font.Open(of(nil, made(5)).bytes()), api.ErrIndex},
		{"a glyph's own part", font.Open(of(nil, made(1)).bytes()), api.ErrCycle},
	} {
		wantErr(t, c.what, c.f, plan(0, 0), c.want)
		wantErr(t, c.what, c.f, reach.Plan{}, c.want)
		wantErr(t, c.what, c.f, plan(9, 65535), c.want)
	}
}

// P17.1: Of's errors: the font's, then those of the text.
func TestOfErrors(t *testing.T) {
	s := full()
	broken := s.bytes()
	broken[len(broken)-1]++
	for _, c := range []struct {
		what string
		f    []byte
		text []rune
		want api.Errno
	}{
		{"nil", nil, nil, api.ErrForm},
		{"a sum", broken, []rune{-1}, api.ErrSum},
		{"a font that is too long", make([]byte, api.MaxBytes+1), []rune{'Z'}, api.ErrLong},
		{"a glyph's own part", of(nil, made(1)).bytes(), []rune{'Z'}, api.ErrCycle},
		{"a text that is too long", s.bytes(), slices.Repeat([]rune{'Z'}, api.MaxText+1), api.ErrLong},
		{"no scalar", s.bytes(), []rune{'A', 0xd800, 'Z'}, api.ErrScalar},
		{"missing", s.bytes(), []rune{'A', 'Z', -1}, api.ErrMissing},
	} {
		wantNoText(t, c.what, c.f, c.text, c.want)
	}
	row := of(nil, corner(5))
	row.codes, row.wide = nil, true
	var text []rune
	for i := range rune(mostIds) {
		row.codes = append(row.codes, seg.Pair{Code: 0x10000 + i, Glyph: 1})
		text = append(text, 0x10000+i)
	}
	wantNoText(t, "too many glyphs", row.bytes(), text, api.ErrFull)
	row.wantText(t, text[1:])
}

// P17.2: what is cut is Valid, with the old outlines and advances, and each code has its own glyph.
func TestOf(t *testing.T) {
	s := full()
	for _, text := range []string{"A", "AA", "B", "AB", "BA", "C", "D", "E", "F", "G", "GFEDCBA", "\uffff", "B\uffff\U0001f445", "\U0010ffffEC"} {
		s.wantText(t, []rune(text))
	}
	s = of(made(3, 1), corner(1), corner(2), made(2))
	for _, text := range []string{"", "A", "B", "C", "CBA"} {
		s.wantText(t, []rune(text))
	}
}

// P17.2: fonts of glyphs of all kinds, and texts.
func TestMixed(t *testing.T) {
	mix := mixer()
	for range 400 {
		n := 1 + mix(12)
		var glyphs [][]byte
		for id := range n {
			switch k := mix(4); {
			case k == 0:
				glyphs = append(glyphs, nil)
			case k == 1 || id == 0:
				glyphs = append(glyphs, corner(int16(mix(600)-300)))
			default:
				parts := make([]uint16, 1+mix(3))
				for i := range parts {
					parts[i] = uint16(mix(id))
				}
				glyphs = append(glyphs, made(parts...))
			}
		}
		s := of(glyphs...)
		s.codes = nil
		for code := rune(0x20); code < 0x20000 && n > 1; code += rune(1 + mix(1<<uint(1+mix(15)))) {
			s.codes = append(s.codes, seg.Pair{Code: code, Glyph: uint16(1 + mix(n-1))})
		}
		s.wide = true
		var text []rune
		for range mix(20) {
			if len(s.codes) > 0 {
				if c := s.codes[mix(len(s.codes))].Code; reach.Scalar(c) {
					text = append(text, c)
				}
			}
		}
		s.wantText(t, text)
		s.wantPlans(t, mix)
	}
}

// wantPlans asks Cut for plans that weren't made of a text.
func (s source) wantPlans(t *testing.T, mix func(n int) int) {
	t.Helper()
	f := s.open(t)
	for range 10 {
		var p reach.Plan
		for range mix(12) {
			p.Olds = append(p.Olds, uint16(mix(len(s.glyphs))))
		}
		for code := rune(0); code < rune(mix(40)); code += rune(mix(9)) {
			p.Codes = append(p.Codes, seg.Pair{Code: code, Glyph: uint16(mix(len(p.Olds) + 1))})
		}
		want, e := s.plainCut(p)
		if e != api.OK {
			wantErr(t, "mixed", f, p, e)
			continue
		}
		wantCut(t, "mixed", f, p, want)
	}
}

// P17.2: what would have more bytes than a font may have can't be cut; that isn't the plan's fault. An old glyph's
// bytes are taken once, however many new ones have them.
func TestTooMuch(t *testing.T) {
	big := simple.Glyph{Ends: []uint16{1}, Program: make([]byte, 60000), Points: make([]simple.Spot, 2)}.Bytes()
	f := of(nil, big, made(1)).open(t)
	p := reach.Plan{Olds: slices.Repeat([]uint16{1, 2}, mostIds/2)}
	var ahead, behind runtime.MemStats
	runtime.ReadMemStats(&ahead)
	wantCut(t, "too much", f, p, nil)
	runtime.ReadMemStats(&behind)
	if taken := behind.TotalAlloc - ahead.TotalAlloc; taken > uint64(2*mostIds*len(big)/100) {
		t.Errorf("%d bytes", taken)
	}
	n := (api.MaxBytes - 1<<20) / (len(big) + len(made(1)))
	p.Olds = p.Olds[:2*n]
	g, e := subset.Cut(f, p)
	if e != api.OK || font.Valid(g) != api.OK || font.Open(g).Count() != 2*n {
		t.Error(e, font.Valid(g))
	}
	s := of(nil, big)
	s.codes, s.wide = nil, true
	var text []rune
	for i := range rune(mostIds - 1) {
		s.codes = append(s.codes, seg.Pair{Code: 0x10000 + i, Glyph: 1})
		text = append(text, 0x10000+i)
	}
	if g, p, e := subset.Of(s.bytes(), text); e != api.OK || len(g) != 0 || len(p.Olds) != mostIds {
		t.Error(e, len(g), len(p.Olds))
	}
}

// The rules: nothing that is handed in is changed or kept, and no two answers share anything.
func TestMemory(t *testing.T) {
	s := full()
	f := s.open(t)
	olds := []uint16{0, 7, 5, 6, 3, 4, 1, 2, 9, 9}
	pairs := []seg.Pair{{Code: 1, Glyph: 1}, {Code: 2, Glyph: 2}, {Code: 9, Glyph: 9}}
	p := reach.Plan{Olds: olds[:8], Codes: pairs[:2]}
	want, _ := s.plainCut(p)
	first, e := subset.Cut(f, p)
	if e != api.OK || !slices.Equal(olds, []uint16{0, 7, 5, 6, 3, 4, 1, 2, 9, 9}) ||
		!slices.Equal(pairs, []seg.Pair{{Code: 1, Glyph: 1}, {Code: 2, Glyph: 2}, {Code: 9, Glyph: 9}}) {
		t.Errorf("%v, %v, %v", e, olds, pairs)
	}
	for i := range p.Olds {
		glyph, _ := s.plainGlyph(p, i)
		g, _ := subset.Glyph(f, p, i)
		other, _ := subset.Glyph(f, p, i)
		scribble(g, 0x77)
		if !bytes.Equal(other, glyph) {
			t.Errorf("%d: % x", i, other)
		}
		wantGlyph(t, "behind it", f, p, i, glyph)
	}
	second, _ := subset.Cut(f, p)
	scribble(first, 0x77)
	if !bytes.Equal(second, want) {
		t.Errorf("%.400x", second)
	}
	scribble(second, 0x77)
	wantCut(t, "behind it all", f, p, want)
	scribble(olds, 0)
	scribble(pairs, seg.Pair{})
	wantCut(t, "another plan", f, plan(0, 6), s.mustCut(plan(0, 6)))

	room := append(s.bytes(), 1, 2, 3)
	given := room[: len(room)-3 : len(room)]
	text := []rune("GFA\uffff")
	g, q, _ := subset.Of(given, text[:3])
	if !bytes.Equal(room, append(s.bytes(), 1, 2, 3)) || string(text) != "GFA\uffff" {
		t.Errorf("%q", string(text))
	}
	cut, plan := s.mustCut(q), reach.Plan{Olds: slices.Clone(q.Olds), Codes: slices.Clone(q.Codes)}
	scribble(given, 0x77)
	scribble(text, 0x77)
	h, r, _ := subset.Of(s.bytes(), []rune("GFA"))
	scribble(h, 0x77)
	scribble(r.Olds, 0x77)
	scribble(r.Codes, seg.Pair{})
	if !bytes.Equal(g, cut) || !reach.Same(q, plan) {
		t.Errorf("%.400x, %v", g, q)
	}
}

// mustCut is what is cut by the words.
func (s source) mustCut(p reach.Plan) []byte {
	g, e := s.plainCut(p)
	if e != api.OK {
		panic(e)
	}
	return g
}

// The rules: a font may be asked by many at once.
func TestMany(t *testing.T) {
	s := full()
	p := plan(7, 0, 1, 2, 3, 4, 5, 6, 7)
	want := s.mustCut(p)
	for range 20 {
		f := font.Open(s.bytes())
		var group sync.WaitGroup
		for i := range 8 {
			group.Go(func() {
				if i%2 == 0 {
					wantGlyph(t, "at once", f, p, 3, made(1, 2, 1))
				}
				wantCut(t, "at once", f, p, want)
			})
		}
		group.Wait()
		if f.Read() != 1 || f.Asked() != 0 {
			t.Errorf("read %d times, asked %d times", f.Read(), f.Asked())
		}
	}
}
