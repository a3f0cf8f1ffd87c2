package reach_test

import (
	"bytes"
	"math"
	"slices"
	"sync"
	"testing"

	"punchcut/api"
	"punchcut/compo"
	"punchcut/dot"
	"punchcut/font"
	"punchcut/head"
	"punchcut/hmtx"
	"punchcut/maxp"
	"punchcut/reach"
	"punchcut/seg"
	"punchcut/simple"
)

// The limits, as the document tells them.
const (
	mostText = 1 << 20
	mostIds  = 65535
)

// corner is a glyph of points.
var corner = simple.Glyph{Ends: []uint16{1}, Points: []simple.Spot{{On: true}, {X: 5, Y: 7, On: true}}}.Bytes()

// source is what a font is made from: the parts that each glyph is made of (none: it is one of points), and the
// codes.
type source struct {
	parts [][]uint16
	codes []seg.Pair
}

// bytes is the source's font.
func (s source) bytes() []byte {
	var glyphs [][]byte
	for _, parts := range s.parts {
		var g compo.Glyph
		for _, id := range parts {
			g.Parts = append(g.Parts, compo.Part{Flags: compo.Places, Glyph: id, M: dot.Unit()})
		}
		if len(parts) == 0 {
			glyphs = append(glyphs, corner)
		} else {
			glyphs = append(glyphs, g.Bytes())
		}
	}
	metrics := make([]hmtx.Metric, len(glyphs))
	return font.Make(head.Head{Units: 1000}, hmtx.Hhea{}, maxp.Maxp{}, glyphs, metrics, s.codes, true)
}

// open is the source's font, which has to be Valid.
func (s source) open(t *testing.T) *font.Font {
	t.Helper()
	f := font.Open(s.bytes())
	if e := f.Err(); e != api.OK {
		t.Fatalf("the font: %v", e)
	}
	return f
}

// glyph is the code's glyph, 0 if it has none that there is.
func (s source) glyph(code rune) uint16 {
	for _, p := range s.codes {
		if p.Code == code && int(p.Glyph) < len(s.parts) {
			return p.Glyph
		}
	}
	return 0
}

// plainClosure is Closure by the words of P16.2: glyph by glyph, is it one of these, or part of one?
func (s source) plainClosure(ids []uint16) []uint16 {
	in := make([]bool, len(s.parts))
	for _, id := range ids {
		if int(id) < len(in) {
			in[id] = true
		}
	}
	for again := true; again; {
		again = false
		for id, is := range in {
			for _, part := range s.parts[id] {
				if is && !in[part] {
					in[part], again = true, true
				}
			}
		}
	}
	var l []uint16
	for id, is := range in {
		if is {
			l = append(l, uint16(id))
		}
	}
	return l
}

// plainPlan is New by the words of P16.1.
func (s source) plainPlan(text []rune) (reach.Plan, api.Errno) {
	if len(text) > mostText {
		return reach.Plan{}, api.ErrLong
	}
	for _, c := range text {
		if c < 0 || c >= 0xd800 && c <= 0xdfff || c > 0x10ffff {
			return reach.Plan{}, api.ErrScalar
		}
		if s.glyph(c) == 0 {
			return reach.Plan{}, api.ErrMissing
		}
	}
	codes := slices.Clone(text)
	slices.Sort(codes)
	p := reach.Plan{Olds: []uint16{0}}
	for i, c := range codes {
		if i == 0 || c != codes[i-1] {
			p.Codes = append(p.Codes, seg.Pair{Code: c, Glyph: uint16(len(p.Olds))})
			p.Olds = append(p.Olds, s.glyph(c))
		}
	}
	for _, id := range s.plainClosure(p.Olds) {
		if !slices.Contains(p.Olds, id) {
			p.Olds = append(p.Olds, id)
		}
	}
	if len(p.Olds) > mostIds {
		return reach.Plan{}, api.ErrFull
	}
	return p, api.OK
}

// of is what a glyph is made of.
type of = []uint16

// letters is a source of these glyphs: A has the glyph 1, B 2, and so on.
func letters(parts ...[]uint16) source {
	s := source{parts: parts}
	for i := 1; i < len(parts); i++ {
		s.codes = append(s.codes, seg.Pair{Code: 'A' + rune(i) - 1, Glyph: uint16(i)})
	}
	return s
}

// same tells, of each item, whether the plans have the same.
func same(a, b reach.Plan) bool {
	return slices.Equal(a.Olds, b.Olds) && slices.Equal(a.Codes, b.Codes)
}

// wantPlan asks New for a plan.
func wantPlan(t *testing.T, what string, f *font.Font, text []rune, want reach.Plan) {
	t.Helper()
	if p, e := reach.New(f, text); e != api.OK || !same(p, want) {
		t.Errorf("%s: %.400v, %v, not %.400v", what, p, e, want)
	}
}

// wantErr asks New for an error, and no plan.
func wantErr(t *testing.T, what string, f *font.Font, text []rune, want api.Errno) {
	t.Helper()
	if p, e := reach.New(f, text); e != want || len(p.Olds) != 0 || len(p.Codes) != 0 {
		t.Errorf("%s: %.400v, %v, not %v", what, p, e, want)
	}
}

// scribble writes over a list and over its spare room.
func scribble[T any](l []T, with T) {
	l = l[:cap(l)]
	for i := range l {
		l[i] = with
	}
}

// P16.1: the document's example.
func TestNewExample(t *testing.T) {
	parts := make([][]uint16, 9)
	parts[3] = []uint16{7}
	s := source{parts: parts, codes: []seg.Pair{{Code: 'A', Glyph: 3}}}
	want := reach.Plan{Olds: []uint16{0, 3, 7}, Codes: []seg.Pair{{Code: 'A', Glyph: 1}}}
	wantPlan(t, "A twice", s.open(t), []rune("AA"), want)
}

// P16.1: the glyph 0; the text's codes, rising, each once, one each; what these are made of, rising, if it isn't there.
func TestNew(t *testing.T) {
	shared := source{parts: make([][]uint16, 4), codes: []seg.Pair{{Code: 5, Glyph: 3}, {Code: 'A', Glyph: 2},
		{Code: 'B', Glyph: 2}, {Code: 'C', Glyph: 1}, {Code: 0xffff, Glyph: 1}, {Code: 0x10ffff, Glyph: 2}}}
	for _, c := range []struct {
		what  string
		s     source
		text  string
		olds  []uint16
		codes []seg.Pair
	}{
		{"no text", letters(nil, nil), "", []uint16{0}, nil},
		{"one", letters(nil, nil), "A", []uint16{0, 1}, []seg.Pair{{Code: 'A', Glyph: 1}}},
		{"falling", letters(nil, nil, nil, nil), "CBA", []uint16{0, 1, 2, 3}, []seg.Pair{{Code: 'A', Glyph: 1}, {Code: 'B', Glyph: 2}, {Code: 'C', Glyph: 3}}},
		{"not all", letters(nil, nil, nil, nil), "CAC", []uint16{0, 1, 3}, []seg.Pair{{Code: 'A', Glyph: 1}, {Code: 'C', Glyph: 2}}},
		{"one glyph of two codes", shared, "BAB", []uint16{0, 2, 2}, []seg.Pair{{Code: 'A', Glyph: 1}, {Code: 'B', Glyph: 2}}},
		{"codes, not glyphs, rise", shared, "C\x05", []uint16{0, 3, 1}, []seg.Pair{{Code: 5, Glyph: 1}, {Code: 'C', Glyph: 2}}},
		{"beyond ffff", shared, "\U0010ffffA\uffff", []uint16{0, 2, 1, 2}, []seg.Pair{{Code: 'A', Glyph: 1}, {Code: 0xffff, Glyph: 2}, {Code: 0x10ffff, Glyph: 3}}},
		{"a part", letters(nil, of{2}, nil), "A", []uint16{0, 1, 2}, []seg.Pair{{Code: 'A', Glyph: 1}}},
		{"a part that is in the text", letters(nil, of{2}, nil), "BA", []uint16{0, 1, 2}, []seg.Pair{{Code: 'A', Glyph: 1}, {Code: 'B', Glyph: 2}}},
		{"a part that is 0", letters(nil, of{0, 2}, nil), "A", []uint16{0, 1, 2}, []seg.Pair{{Code: 'A', Glyph: 1}}},
		{"parts rise", letters(nil, of{4, 2, 5}, nil, nil, nil, of{3}), "A", []uint16{0, 1, 2, 3, 4, 5}, []seg.Pair{{Code: 'A', Glyph: 1}}},
		{"not those of others", letters(nil, of{4}, of{3}, nil, nil), "A", []uint16{0, 1, 4}, []seg.Pair{{Code: 'A', Glyph: 1}}},
		{"parts of the text's parts", letters(nil, nil, nil, of{4, 4}, of{2, 1}), "CA", []uint16{0, 1, 3, 2, 4}, []seg.Pair{{Code: 'A', Glyph: 1}, {Code: 'C', Glyph: 2}}},
		{"0's own parts", letters(of{3, 1}, nil, nil, of{2}), "A", []uint16{0, 1, 2, 3}, []seg.Pair{{Code: 'A', Glyph: 1}}},
		{"0's own parts, no text", letters(of{3, 1}, nil, nil, of{2}, nil), "", []uint16{0, 1, 2, 3}, nil},
	} {
		want := reach.Plan{Olds: c.olds, Codes: c.codes}
		wantPlan(t, c.what, c.s.open(t), []rune(c.text), want)
		if p, e := c.s.plainPlan([]rune(c.text)); e != api.OK || !same(p, want) {
			t.Errorf("%s, by the words: %v, %v", c.what, p, e)
		}
	}
}

// P16.1: the font's own error is ahead of all; then the text's size; then the first code that has a fault.
func TestNewErrors(t *testing.T) {
	f := source{parts: make([][]uint16, 3), codes: []seg.Pair{{Code: 'A', Glyph: 1}, {Code: 'B', Glyph: 0}, {Code: 'C', Glyph: 3},
		{Code: 0xd7ff, Glyph: 1}, {Code: 0xd800, Glyph: 1}, {Code: 0xdfff, Glyph: 2}, {Code: 0xe000, Glyph: 2}, {Code: 0x10ffff, Glyph: 1}}}.open(t)
	long := slices.Repeat([]rune{'A'}, mostText+1)
	badAhead := slices.Clone(long)
	badAhead[0], badAhead[1] = -1, 'Z'
	broken := source{parts: make([][]uint16, 3)}.bytes()
	broken[len(broken)-1]++
	for _, c := range []struct {
		what string
		f    *font.Font
		text []rune
		want api.Errno
	}{
		{"nil", nil, nil, api.ErrNone},
		{"nil, a long text", nil, badAhead, api.ErrNone},
		{"no font", font.Open(nil), nil, api.ErrForm},
		{"no font, a long text", font.Open(nil), badAhead, api.ErrForm},
		{"a sum", font.Open(broken), []rune{'A'}, api.ErrSum},
		{"too many glyphs' bytes", font.Open(make([]byte, api.MaxBytes+1)), nil, api.ErrLong},
		{"a long text", f, long, api.ErrLong},
		{"a long text, wrong codes", f, badAhead, api.ErrLong},
		{"the same, one less", f, badAhead[:mostText], api.ErrScalar},
		{"the same, two less", f, badAhead[1:][:mostText], api.ErrMissing},
		{"the same, the last one", f, slices.Concat(long[:mostText-1], []rune{'Z'}), api.ErrMissing},
		{"no glyph", f, []rune{'Z'}, api.ErrMissing},
		{"the glyph 0", f, []rune{'A', 'B'}, api.ErrMissing},
		{"a glyph that isn't there", f, []rune{'A', 'C', 'A'}, api.ErrMissing},
		{"0", f, []rune{0}, api.ErrMissing},
		{"missing ahead", f, []rune{'A', 'Z', 0xd800}, api.ErrMissing},
		{"no scalar ahead", f, []rune{'A', 0xd800, 'Z'}, api.ErrScalar},
		{"d800, that has a glyph", f, []rune{0xd800}, api.ErrScalar},
		{"dfff, that has a glyph", f, []rune{0xdfff}, api.ErrScalar},
		{"below 0", f, []rune{-1}, api.ErrScalar},
		{"far below 0", f, []rune{math.MinInt32}, api.ErrScalar},
		{"too far", f, []rune{0x110000}, api.ErrScalar},
		{"far too far", f, []rune{math.MaxInt32}, api.ErrScalar},
	} {
		wantErr(t, c.what, c.f, c.text, c.want)
	}
	want := reach.Plan{Olds: []uint16{0, 1, 2, 1}, Codes: []seg.Pair{{Code: 0xd7ff, Glyph: 1}, {Code: 0xe000, Glyph: 2}, {Code: 0x10ffff, Glyph: 3}}}
	wantPlan(t, "scalars", f, []rune{0xe000, 0xd7ff, 0x10ffff}, want)
	wantPlan(t, "the longest text", f, long[:mostText], reach.Plan{Olds: []uint16{0, 1}, Codes: []seg.Pair{{Code: 'A', Glyph: 1}}})
}

// row is n codes from 10000 on, all with the glyph 1.
func row(n int) (source, []rune) {
	s := source{parts: [][]uint16{nil, nil, {1}, {2}}}
	var text []rune
	for i := range n {
		c := rune(0x10000 + i)
		s.codes = append(s.codes, seg.Pair{Code: c, Glyph: 1})
		text = append(text, c)
	}
	return s, text
}

// P16.1: so many glyphs may be; of one more, be it a code's or a part's, ErrFull, but any code's fault is ahead of it.
func TestNewFull(t *testing.T) {
	s, text := row(1<<17 + 5)
	f := s.open(t)
	most := text[:mostIds-1]
	p, e := reach.New(f, most)
	if e != api.OK || len(p.Olds) != mostIds || len(p.Codes) != mostIds-1 {
		t.Fatalf("the most: %v, %d, %d", e, len(p.Olds), len(p.Codes))
	}
	for i, pair := range p.Codes {
		if pair != (seg.Pair{Code: most[i], Glyph: uint16(i + 1)}) || p.Olds[i+1] != 1 || p.Olds[0] != 0 {
			t.Fatalf("%d: %v, %d", i, pair, p.Olds[i+1])
		}
	}
	if id, there := p.Code(most[mostIds-2]); !there || id != mostIds-1 {
		t.Errorf("the last code: %d, %v", id, there)
	}
	wantPlan(t, "twice", f, append(slices.Clone(most), most...), p)
	for _, n := range []int{mostIds, mostIds + 1, mostIds + 2, 1<<17 - 1, 1 << 17, 1<<17 + 1, len(text)} {
		wantErr(t, "too many", f, text[:n], api.ErrFull)
	}
	wantErr(t, "too many, one missing", f, append(text[:mostIds+9:mostIds+9], 'A'), api.ErrMissing)
	wantErr(t, "too many, no scalar", f, append(text[:mostIds+9:mostIds+9], 0xdfff), api.ErrScalar)
	// One code's glyph is made of others: of 1, that is there, or of 2, that isn't.
	for i, want := range []api.Errno{api.OK, api.OK, api.ErrFull} {
		s.codes[0].Glyph = uint16(1 + i)
		if _, e := reach.New(s.open(t), most); e != want {
			t.Errorf("%d: %v, not %v", i, e, want)
		}
	}
	// Two glyphs are needed beside those of the codes.
	for i := range s.codes {
		s.codes[i].Glyph = 3
	}
	f = s.open(t)
	wantErr(t, "two parts too many", f, most, api.ErrFull)
	wantErr(t, "one part too many", f, most[1:], api.ErrFull)
	if p, e := reach.New(f, most[2:]); e != api.OK || !slices.Equal(p.Olds[mostIds-2:], []uint16{1, 2}) || len(p.Olds) != mostIds {
		t.Errorf("just as many: %v, %d", e, len(p.Olds))
	}
}

// P16.1: a font of as many glyphs as may be, all of them in the text, or none.
func TestNewAll(t *testing.T) {
	s := source{parts: make([][]uint16, mostIds)}
	var text []rune
	for id := range mostIds - 1 {
		s.codes = append(s.codes, seg.Pair{Code: rune(0x10000 + id), Glyph: uint16(mostIds - 1 - id)})
		text = append(text, rune(0x10000+id))
	}
	f := s.open(t)
	p, e := reach.New(f, text)
	if e != api.OK || len(p.Olds) != mostIds || p.Olds[1] != mostIds-1 || p.Olds[mostIds-1] != 1 {
		t.Error(e, len(p.Olds))
	}
	if id, there := p.Where(1); !there || id != mostIds-1 {
		t.Error(id, there)
	}
	wantPlan(t, "none", f, nil, reach.Plan{Olds: []uint16{0}})
	all := reach.Closure(f, p.Olds)
	if len(all) != mostIds || all[0] != 0 || all[mostIds-1] != mostIds-1 {
		t.Error(len(all))
	}
}

// P16.2: all codes are scalars but for these.
func TestScalar(t *testing.T) {
	for c := rune(-0x200); c < 0x110200; c++ {
		want := c >= 0 && c <= 0x10ffff
		if c >= 0xd800 && c <= 0xdfff {
			want = false
		}
		if reach.Scalar(c) != want {
			t.Errorf("%x: %v", c, !want)
		}
	}
	for _, c := range []rune{math.MinInt32, math.MinInt32 + 0x41, -0x7fff0000, 0x7fffd7ff, math.MaxInt32, 0x1000041} {
		if reach.Scalar(c) {
			t.Errorf("%x: is one", c)
		}
	}
}

// P16.2: these glyphs and all that they are made of, rising, each once; those that there aren't are left out.
func TestClosure(t *testing.T) {
	s := letters(nil, of{5, 2}, of{0, 4, 4}, nil, nil, of{4}, of{1, 3})
	f := s.open(t)
	for _, c := range []struct{ ids, want []uint16 }{
		{nil, nil},
		{[]uint16{}, nil},
		{[]uint16{0}, []uint16{0}},
		{[]uint16{3}, []uint16{3}},
		{[]uint16{4, 3, 4, 3}, []uint16{3, 4}},
		{[]uint16{5}, []uint16{4, 5}},
		{[]uint16{2}, []uint16{0, 2, 4}},
		{[]uint16{1}, []uint16{0, 1, 2, 4, 5}},
		{[]uint16{6}, []uint16{0, 1, 2, 3, 4, 5, 6}},
		{[]uint16{6, 5, 4, 3, 2, 1, 0}, []uint16{0, 1, 2, 3, 4, 5, 6}},
		{[]uint16{7}, nil},
		{[]uint16{65535, 5, 7, 65534}, []uint16{4, 5}},
	} {
		if l := reach.Closure(f, c.ids); !slices.Equal(l, c.want) {
			t.Errorf("%v: %v, not %v", c.ids, l, c.want)
		}
		if l := s.plainClosure(c.ids); !slices.Equal(l, c.want) {
			t.Errorf("%v, by the words: %v", c.ids, l)
		}
	}
	for id := range 1 << 16 {
		if l := reach.Closure(f, []uint16{uint16(id)}); id > 6 && len(l) != 0 {
			t.Errorf("%d: %v", id, l)
		}
	}
}

// P16.2: as deep as a Valid font's glyphs may stand, and with each part met again and again.
func TestClosureDeep(t *testing.T) {
	parts := make([][]uint16, 18)
	var want []uint16
	for i := 1; i < 17; i++ {
		parts[i] = []uint16{uint16(i + 1)}
		want = append(want, uint16(i))
	}
	want = append(want, 17)
	if l := reach.Closure(letters(parts...).open(t), []uint16{1}); !slices.Equal(l, want) {
		t.Error(l)
	}
	many := [][]uint16{nil, nil}
	for i := 1; i < 14; i++ {
		many = append(many, []uint16{uint16(i), uint16(i)})
	}
	many = append(many, slices.Repeat([]uint16{1, 7, 3}, 30))
	for i := range 200 {
		many = append(many, slices.Repeat([]uint16{uint16(i % 3)}, 200))
	}
	s := source{parts: many}
	f := s.open(t)
	for _, ids := range [][]uint16{{14}, {15, 1}, {16, 17, 200}, {99, 14, 15},
		slices.Repeat([]uint16{14}, 50000)} {
		if l := reach.Closure(f, ids); !slices.Equal(l, s.plainClosure(ids)) {
			t.Errorf("%.400v: %v", ids, l)
		}
	}
}

// P16.2: a font that isn't there, or isn't Valid, has no glyphs.
func TestClosureNoFont(t *testing.T) {
	broken := letters(nil, nil).bytes()
	broken[len(broken)-1]++
	for what, f := range map[string]*font.Font{"nil": nil, "nothing": font.Open(nil), "a sum": font.Open(broken)} {
		if l := reach.Closure(f, []uint16{0, 1, 2}); len(l) != 0 {
			t.Errorf("%s: %v", what, l)
		}
	}
}

// P16.2: Where and IDs tell the first new glyph of each old one; false: there is none.
func TestWhere(t *testing.T) {
	p := reach.Plan{Olds: []uint16{0, 9, 4, 9, 65535, 4, 0}}
	want := map[uint16]uint16{0: 0, 9: 1, 4: 2, 65535: 4}
	ids := p.IDs()
	if len(ids) != len(want) {
		t.Errorf("%v", ids)
	}
	for old := range 1 << 16 {
		at, there := want[uint16(old)]
		if id, ok := p.Where(uint16(old)); id != at || ok != there {
			t.Errorf("%d: %d, %v", old, id, ok)
		}
		if id, ok := ids[uint16(old)]; id != at || ok != there {
			t.Errorf("IDs of %d: %d, %v", old, id, ok)
		}
	}
	for _, p := range []reach.Plan{{}, {Olds: []uint16{}}, {Codes: []seg.Pair{{Code: 0, Glyph: 0}}}} {
		if id, ok := p.Where(0); id != 0 || ok {
			t.Errorf("%v: %d, %v", p, id, ok)
		}
		ids := p.IDs()
		if len(ids) != 0 {
			t.Errorf("%v: %v", p, ids)
		}
		ids[3] = 4
		if _, there := p.IDs()[3]; there {
			t.Error("an answer is kept")
		}
	}
}

// P16.2: what stands in a plan beyond the last number that a glyph may have isn't told by a wrong number.
func TestWhereFar(t *testing.T) {
	p := reach.Plan{Olds: make([]uint16, 1<<16+10)}
	p.Olds[1<<16-1], p.Olds[1<<16], p.Olds[1<<16+1], p.Olds[1<<16+2] = 7, 8, 0, 7
	for old, want := range map[uint16]uint16{0: 0, 7: 1<<16 - 1} {
		if id, there := p.Where(old); !there || id != want {
			t.Errorf("%d: %d, %v", old, id, there)
		}
	}
	if id, there := p.Where(8); there || id != 0 {
		t.Errorf("8: %d, %v", id, there)
	}
	if ids := p.IDs(); len(ids) != 2 || ids[0] != 0 || ids[7] != 1<<16-1 {
		t.Errorf("%v", ids)
	}
}

// P16.2: Code tells the first pair that is the code's, also of codes that fall, or come twice.
func TestCode(t *testing.T) {
	p := reach.Plan{Codes: []seg.Pair{{Code: 70, Glyph: 5}, {Code: 65, Glyph: 3}, {Code: 70, Glyph: 6}, {Code: -1, Glyph: 8},
		{Code: 65, Glyph: 0}, {Code: 80, Glyph: 0}, {Code: math.MaxInt32, Glyph: 65535}, {Code: 0, Glyph: 1}}}
	want := map[rune]uint16{70: 5, 65: 3, -1: 8, 80: 0, math.MaxInt32: 65535, 0: 1}
	for _, c := range []rune{math.MinInt32, -1, 0, 1, 64, 65, 66, 70, 80, 81, 0xffff, 0x10ffff, math.MaxInt32} {
		glyph, there := want[c]
		if id, ok := p.Code(c); id != glyph || ok != there {
			t.Errorf("%x: %d, %v", c, id, ok)
		}
	}
	rising := reach.Plan{Olds: []uint16{0, 1}, Codes: []seg.Pair{{Code: 1, Glyph: 4}, {Code: 2, Glyph: 3}, {Code: 2, Glyph: 9}, {Code: 5, Glyph: 1}}}
	for c, want := range map[rune]uint16{1: 4, 2: 3, 5: 1} {
		if id, ok := rising.Code(c); !ok || id != want {
			t.Errorf("%d: %d, %v", c, id, ok)
		}
	}
	for _, c := range []rune{0, 3, 4, 6} {
		if id, ok := rising.Code(c); ok || id != 0 {
			t.Errorf("%d: %d, %v", c, id, ok)
		}
	}
	if id, ok := (reach.Plan{Olds: []uint16{0}}).Code(0); id != 0 || ok {
		t.Error(id, ok)
	}
}

// P16.2: alike is each item, in its place; nil and empty are.
func TestSame(t *testing.T) {
	base := func() reach.Plan {
		return reach.Plan{Olds: []uint16{0, 3, 7}, Codes: []seg.Pair{{Code: 'A', Glyph: 1}, {Code: 'B', Glyph: 2}}}
	}
	if !reach.Same(base(), base()) || !reach.Same(reach.Plan{}, reach.Plan{Olds: []uint16{}, Codes: []seg.Pair{}}) {
		t.Error("not alike")
	}
	for what, change := range map[string]func(p *reach.Plan){
		"an old one":         func(p *reach.Plan) { p.Olds[2] = 8 },
		"the first old one":  func(p *reach.Plan) { p.Olds[0] = 1 },
		"one less":           func(p *reach.Plan) { p.Olds = p.Olds[:2] },
		"one more":           func(p *reach.Plan) { p.Olds = append(p.Olds, 0) },
		"no old ones":        func(p *reach.Plan) { p.Olds = nil },
		"another order":      func(p *reach.Plan) { p.Olds[1], p.Olds[2] = 7, 3 },
		"a code":             func(p *reach.Plan) { p.Codes[1].Code = 'C' },
		"a code's glyph":     func(p *reach.Plan) { p.Codes[0].Glyph = 2 },
		"a code less":        func(p *reach.Plan) { p.Codes = p.Codes[:1] },
		"a code more":        func(p *reach.Plan) { p.Codes = append(p.Codes, seg.Pair{}) },
		"no codes":           func(p *reach.Plan) { p.Codes = nil },
		"codes' other order": func(p *reach.Plan) { p.Codes[0], p.Codes[1] = p.Codes[1], p.Codes[0] },
	} {
		p := base()
		change(&p)
		if reach.Same(p, base()) || reach.Same(base(), p) || !reach.Same(p, p) {
			t.Errorf("%s: alike", what)
		}
	}
}

// mixer is numbers that are always the same.
func mixer() func(n int) int {
	state := uint64(1)
	return func(n int) int {
		state = state*6364136223846793005 + 1442695040888963407
		return int((state >> 33) % uint64(n))
	}
}

// P16.1, P16.2: fonts, texts and lists of all kinds, by the words.
func TestMixed(t *testing.T) {
	mix := mixer()
	for range 300 {
		s := source{parts: make([][]uint16, 1+mix(14))}
		n := len(s.parts)
		// Which glyphs may be made of which: those that stand behind them in a mixed row.
		row := make([]uint16, n)
		for i := range row {
			k := mix(i + 1)
			row[i], row[k] = row[k], uint16(i)
		}
		for i, id := range row[:n-1] {
			for range max(0, mix(6)-2) {
				s.parts[id] = append(s.parts[id], row[i+1+mix(n-1-i)])
			}
		}
		for c, i := rune(mix(4)), 0; i < 12; i++ {
			s.codes = append(s.codes, seg.Pair{Code: c, Glyph: uint16(mix(n + 1))})
			c += rune(1 + mix(3))
			if mix(9) == 0 {
				c = max(c, rune(0xd7f8+mix(0x1000)))
			}
		}
		f := s.open(t)
		for range 12 {
			text := make([]rune, mix(7))
			for i := range text {
				text[i] = s.codes[mix(len(s.codes))].Code
				if mix(15) == 0 {
					text[i] += rune(mix(3) - 1)
				}
			}
			want, e := s.plainPlan(text)
			if e != api.OK {
				wantErr(t, "mixed", f, text, e)
			} else {
				wantPlan(t, "mixed", f, text, want)
			}
			ids := make([]uint16, mix(5))
			for i := range ids {
				ids[i] = uint16(mix(n + 2))
			}
			if l := reach.Closure(f, ids); !slices.Equal(l, s.plainClosure(ids)) {
				t.Errorf("%v of %v: %v, not %v", ids, s.parts, l, s.plainClosure(ids))
			}
		}
	}
}

// P2 and the rules: what is handed in isn't changed, nor kept; answers share nothing; a plan is only read.
func TestMemory(t *testing.T) {
	f := letters(nil, of{3, 2}, nil, nil).open(t)
	text := append(make([]rune, 0, 9), 'C', 'A', 'C')
	before := slices.Clone(text[:cap(text)])
	p, _ := reach.New(f, text)
	again, _ := reach.New(f, text)
	if !slices.Equal(text[:cap(text)], before) {
		t.Errorf("the text is %v", text)
	}
	scribble(text, 'B')
	ids := append(make([]uint16, 0, 9), 1, 3, 1)
	l, other := reach.Closure(f, ids), reach.Closure(f, ids)
	if !slices.Equal(ids[:cap(ids)], []uint16{1, 3, 1, 0, 0, 0, 0, 0, 0}) {
		t.Errorf("the ids are %v", ids)
	}
	scribble(ids, 77)
	scribble(l, 77)
	if !slices.Equal(other, []uint16{1, 2, 3}) {
		t.Errorf("closure: %v", other)
	}
	want := reach.Plan{Olds: []uint16{0, 1, 3, 2}, Codes: []seg.Pair{{Code: 'A', Glyph: 1}, {Code: 'C', Glyph: 2}}}
	if !same(p, want) || !same(again, want) {
		t.Fatalf("%v, %v", p, again)
	}
	room := slices.Clone(p.Olds[:cap(p.Olds)])
	first := p.IDs()
	first[0] = 99
	if second := p.IDs(); second[0] != 0 || len(second) != 4 || !slices.Equal(room, p.Olds[:cap(p.Olds)]) || !same(p, want) {
		t.Errorf("%v, %v", second, p)
	}
	scribble(p.Olds, 77)
	scribble(p.Codes, seg.Pair{Code: 77, Glyph: 77})
	if !same(again, want) {
		t.Errorf("%v", again)
	}
	wantPlan(t, "behind it all", f, []rune("CA"), want)
	if !bytes.Equal(f.Raw(2), append(slices.Clone(corner), make([]byte, len(corner)%2)...)) {
		t.Error("the font has changed")
	}
}

// The rules: a font may be asked by many at once.
func TestMany(t *testing.T) {
	s := letters(nil, of{3, 2}, nil, nil, of{1})
	for range 20 {
		f := font.Open(s.bytes())
		var group sync.WaitGroup
		for i := range 8 {
			group.Go(func() {
				text := []rune("DCBA")[i%4:]
				want, _ := s.plainPlan(text)
				wantPlan(t, "at once", f, text, want)
				if l := reach.Closure(f, []uint16{4}); !slices.Equal(l, []uint16{1, 2, 3, 4}) {
					t.Errorf("%v", l)
				}
			})
		}
		group.Wait()
		if f.Read() != 1 {
			t.Errorf("read %d times", f.Read())
		}
	}
}
