package flat_test

import (
	"bytes"
	"math"
	"slices"
	"testing"

	"punchcut/api"
	"punchcut/compo"
	"punchcut/dot"
	"punchcut/flat"
	"punchcut/simple"
)

// The limits, as the document tells them.
const (
	mostDeep = 16
	mostFlat = 20000
)

// form is what a glyph is made from: contours, or parts, or bytes that are no glyph's.
type form struct {
	contours [][]dot.Point
	parts    []compo.Part
	wrong    bool
}

// bytesOf is the form's bytes, with as many noughts behind them.
func (f form) bytesOf(noughts int) []byte {
	fill := make([]byte, noughts)
	switch {
	case f.wrong:
		return []byte{1, 2, 3}
	case len(f.parts) > 0:
		return append(compo.Glyph{Box: [4]int16{1, 2, 3, 4}, Parts: f.parts}.Bytes(), fill...)
	case len(f.contours) == 0:
		return nil
	}
	var g simple.Glyph
	for _, c := range f.contours {
		for _, p := range c {
			g.Points = append(g.Points, simple.Spot{X: int16(p.X), Y: int16(p.Y), On: p.On})
		}
		g.Ends = append(g.Ends, uint16(len(g.Points)-1))
	}
	return append(g.Bytes(), fill...)
}

// bytesOf is all the forms' bytes, with noughts behind some of them.
func bytesOf(forms []form) [][]byte {
	l := make([][]byte, len(forms))
	for i, f := range forms {
		l[i] = f.bytesOf(i % 4)
	}
	return l
}

// plainWalk goes through forms by the words of P14.1 and P14.2.
type plainWalk struct {
	forms       []form
	met, points int
}

// flat is the contours of a form that stands below those ahead.
func (w *plainWalk) flat(id int, ahead []int) ([][]dot.Point, api.Errno) {
	if id < 0 || id >= len(w.forms) {
		return nil, api.ErrIndex
	}
	for _, other := range ahead {
		if other == id {
			return nil, api.ErrCycle
		}
	}
	if len(ahead) > mostDeep {
		return nil, api.ErrDepth
	}
	if w.met++; w.met > mostFlat {
		return nil, api.ErrOver
	}
	f := w.forms[id]
	if f.wrong {
		return nil, api.ErrForm
	}
	if w.points += plainPoints(f.contours); w.points > mostFlat {
		return nil, api.ErrOver
	}
	all := slices.Clone(f.contours)
	for _, p := range f.parts {
		l, e := w.flat(int(p.Glyph), append(slices.Clone(ahead), id))
		if e != api.OK {
			return nil, e
		}
		for _, c := range l {
			all = append(all, plainMoved(c, p))
		}
	}
	return all, api.OK
}

// plainFlat is what the words say of a form.
func plainFlat(forms []form, id int) ([][]dot.Point, api.Errno) {
	w := plainWalk{forms: forms}
	return w.flat(id, nil)
}

// plainMoved is a contour where a part brings it, by the words of P4.1.
func plainMoved(c []dot.Point, p compo.Part) []dot.Point {
	var moved []dot.Point
	for _, q := range c {
		x := plainRound(int(p.M.XX)*q.X+int(p.M.YX)*q.Y) + int(p.X)
		y := plainRound(int(p.M.XY)*q.X+int(p.M.YY)*q.Y) + int(p.Y)
		moved = append(moved, dot.Point{X: x, Y: y, On: q.On})
	}
	return moved
}

// plainRound is n and 8192, by 16384, rounded down.
func plainRound(n int) int {
	n += 8192
	rest := n % 16384
	if rest < 0 {
		rest += 16384
	}
	return (n - rest) / 16384
}

// plainPoints counts points one by one.
func plainPoints(l [][]dot.Point) int {
	n := 0
	for _, c := range l {
		for range c {
			n++
		}
	}
	return n
}

// plainSame holds contours against each other point by point.
func plainSame(a, b [][]dot.Point) bool {
	if len(a) != len(b) {
		return false
	}
	for i := range a {
		if len(a[i]) != len(b[i]) {
			return false
		}
		for j := range a[i] {
			if a[i][j].X != b[i][j].X || a[i][j].Y != b[i][j].Y || a[i][j].On != b[i][j].On {
				return false
			}
		}
	}
	return true
}

// wantPlain asks Flat for what the words say of a form, and tells its error.
func wantPlain(t *testing.T, what string, forms []form, id int) api.Errno {
	t.Helper()
	want, wantErr := plainFlat(forms, id)
	wantFlat(t, what, bytesOf(forms), id, want, wantErr)
	return wantErr
}

// wantFlat asks Flat for contours, or for an error with none.
func wantFlat(t *testing.T, what string, glyphs [][]byte, id int, want [][]dot.Point, wantErr api.Errno) {
	t.Helper()
	l, e := flat.Flat(glyphs, id)
	if e != wantErr || !plainSame(l, want) {
		t.Errorf("%s: glyph %d: %v, not %v: %d points, not %d: %.200v", what, id, e, wantErr, plainPoints(l), plainPoints(want),
			l[:min(len(l), 5)])
	}
}

// wantErr asks Flat for an error, with no contours, and the words for the same.
func wantErr(t *testing.T, what string, forms []form, id int, want api.Errno) {
	t.Helper()
	if e := wantPlain(t, what, forms, id); e != want {
		t.Errorf("%s: glyph %d: the words say %v, not %v", what, id, e, want)
	}
}

// at is a point on the curve.
func at(x, y int) dot.Point { return dot.Point{X: x, Y: y, On: true} }

// off is a point beside the curve.
func off(x, y int) dot.Point { return dot.Point{X: x, Y: y} }

// outline is a form of contours.
func outline(l ...[]dot.Point) form { return form{contours: l} }

// many is a form of n points, in contours of at most 100 points.
func many(n int) form {
	var f form
	for i := range n {
		if i%100 == 0 {
			f.contours = append(f.contours, nil)
		}
		last := len(f.contours) - 1
		f.contours[last] = append(f.contours[last], dot.Point{X: i % 300, Y: i % 7, On: i%3 == 0})
	}
	return f
}

// bad is a form of bytes that are no glyph's.
func bad() form { return form{wrong: true} }

// made is a form of parts where they are.
func made(ids ...int) form {
	var f form
	for _, id := range ids {
		f.parts = append(f.parts, stood(id, 0, 0))
	}
	return f
}

// rows is a form of n parts, all of one glyph.
func rows(n, id int) form {
	ids := make([]int, n)
	for i := range ids {
		ids[i] = id
	}
	return made(ids...)
}

// stood is a part that stands somewhere.
func stood(id, x, y int) compo.Part {
	return compo.Part{Flags: compo.Words | compo.Places, Glyph: uint16(id), X: int16(x), Y: int16(y), M: dot.Unit()}
}

// turned is a part that has a matrix.
func turned(id, x, y int, m dot.Matrix) compo.Part {
	p := stood(id, x, y)
	p.Flags |= compo.Four
	p.M = m
	return p
}

// chain is n forms, each made of the one behind it, the last one of last.
func chain(n int, last form) []form {
	var forms []form
	for i := range n - 1 {
		forms = append(forms, made(i+1))
	}
	return append(forms, last)
}

// P14.1: a glyph of no bytes has no contours, nor has one of no Ends.
func TestNone(t *testing.T) {
	none := simple.Glyph{Program: []byte{1, 2}}.Bytes()
	for _, p := range [][]byte{nil, {}, none, append(bytes.Clone(none), 0, 0, 0)} {
		wantFlat(t, "none", [][]byte{p}, 0, nil, api.OK)
	}
	wantPlain(t, "made of none", []form{{}, made(0, 0)}, 1)
}

// P14.1: of a glyph of layer 12 its Contours, written out.
func TestSimple(t *testing.T) {
	p := []byte("\x00\x02" + "\x00\x00\x00\x00\x00\x00\x00\x00" + "\x00\x01\x00\x02" + "\x00\x01\x23" + // two Ends, a Program
		"\x33\x26\x01" + "\x05\x02\x01\x00" + "\x07\x80\x00")
	want := [][]dot.Point{{at(5, 0), off(3, 7)}, {at(259, -32761)}}
	wantFlat(t, "written out", [][]byte{p}, 0, want, api.OK)
	wantFlat(t, "another one's", [][]byte{nil, {1}, p, nil}, 2, want, api.OK)
	forms := []form{outline([]dot.Point{at(-32768, 32767), off(-1, 0)}, []dot.Point{off(0, 0)}, []dot.Point{at(7, 7)})}
	wantErr(t, "three contours", forms, 0, api.OK)
}

// P14.1: of one of layer 13 the parts' contours, one behind the other, written out.
func TestMade(t *testing.T) {
	forms := []form{
		outline([]dot.Point{at(10, 4), off(-3, 0)}, []dot.Point{at(1, 1)}),
		outline([]dot.Point{off(100, 200)}),
		{parts: []compo.Part{stood(1, 5, -6), stood(0, -1, 1)}},
		{parts: []compo.Part{{Flags: compo.Places | compo.Scale, Glyph: 0, X: 5, M: dot.Scale(8192)}}},
		{parts: []compo.Part{{Flags: compo.Places | compo.Each, Glyph: 0, Y: 1, M: dot.Matrix{XX: 16384, YY: -16384}}}},
		{parts: []compo.Part{turned(1, 1, 2, dot.Matrix{XY: 16384, YX: -32768})}},
	}
	for id, want := range map[int][][]dot.Point{
		2: {{off(105, 194)}, {at(9, 5), off(-4, 1)}, {at(0, 2)}},
		3: {{at(10, 2), off(4, 0)}, {at(6, 1)}},
		4: {{at(10, -3), off(-3, 1)}, {at(1, 0)}},
		5: {{off(-399, 102)}},
	} {
		wantErr(t, "made", forms, id, api.OK)
		wantFlat(t, "written out", bytesOf(forms), id, want, api.OK)
	}
}

// P14.1: each part is Applied and Moved for itself, from the innermost one on, and rounded each time.
func TestNested(t *testing.T) {
	forms := []form{
		outline([]dot.Point{at(1, 3)}),
		{parts: []compo.Part{turned(0, 1, 0, dot.Scale(8192))}},
		{parts: []compo.Part{turned(1, 0, 10, dot.Scale(8192)), stood(0, 0, 0)}},
		{parts: []compo.Part{stood(2, 100, 100), turned(1, -1, -1, dot.Scale(-32768))}},
	}
	// (1, 3) halved is (1, 2), at (1, 0) it is (2, 2); halved again (1, 1).
	want := [][]dot.Point{{at(101, 111)}, {at(101, 103)}, {at(-5, -5)}}
	wantFlat(t, "written out", bytesOf(forms), 3, want, api.OK)
	wantErr(t, "nested", forms, 3, api.OK)
}

// P14.1: points may go as far as MaxDepth of the greatest matrices bring them.
func TestFar(t *testing.T) {
	far := dot.Matrix{XX: -32768, XY: -32768, YX: -32768, YY: -32768}
	forms := []form{outline([]dot.Point{at(-32768, -32768), off(-1, -2)}, []dot.Point{at(32766, 32765)})}
	for i := range mostDeep {
		forms = append(forms, form{parts: []compo.Part{turned(i, 32767, -32768, far)}})
	}
	wantErr(t, "far", forms, mostDeep, api.OK)
	l, _ := flat.Flat(bytesOf(forms), mostDeep)
	if len(l) != 2 || l[0][0].X > -1<<46 && l[0][0].X < 1<<46 {
		t.Errorf("not far enough: %v", l)
	}
}

// P14.1: at most three noughts behind a glyph's bytes.
func TestNoughts(t *testing.T) {
	forms := []form{outline([]dot.Point{at(1, 2)}), made(2), outline([]dot.Point{at(3, 4)})}
	for id, f := range forms[:2] {
		want, _ := plainFlat(forms, id)
		for n := range 8 {
			l := bytesOf(forms)
			l[id] = f.bytesOf(n)
			if n <= 3 {
				wantFlat(t, "noughts", l, id, want, api.OK)
			} else {
				wantFlat(t, "too many noughts", l, id, nil, api.ErrForm)
			}
			for i := range n {
				l[id] = f.bytesOf(n)
				l[id][len(l[id])-1-i] = 1
				wantFlat(t, "no nought", l, id, nil, api.ErrForm)
			}
		}
	}
}

// P14.1: of noughts alone there is no glyph; nor is spare room looked at.
func TestNoughtsAlone(t *testing.T) {
	for n := range 4 {
		wantFlat(t, "noughts alone", [][]byte{make([]byte, n+1)}, 0, nil, api.ErrForm)
	}
	p := outline([]dot.Point{at(1, 2)}).bytesOf(0)
	room := append(bytes.Clone(p), 1, 2, 3, 4, 5)
	wantFlat(t, "spare room", [][]byte{room[:len(p)]}, 0, [][]dot.Point{{at(1, 2)}}, api.OK)
	wantFlat(t, "too few", [][]byte{room[:len(p)-1]}, 0, nil, api.ErrForm)
}

// P14.1: whether a glyph is of layer 13 is for its first number to tell.
func TestLayer(t *testing.T) {
	box := "\x00\x01\x00\x02\x00\x03\x00\x04"
	for p, want := range map[string]api.Errno{
		"\xff\xff" + box + "\x00\x02\x00\x01\x00\x00": api.OK,
		"\xff\xfe" + box + "\x00\x02\x00\x01\x00\x00": api.ErrForm,
		"\x80\x00" + box + "\x00\x02\x00\x01\x00\x00": api.ErrForm,
		"\xff\xff" + box + "\x00\x00\x00\x01\x00\x00": api.ErrForm, // no Places
		"\xff\xff" + box + "\x00\x02\x00\x01\x00":     api.ErrForm,
		"\xff\xff" + box:                      api.ErrForm,
		"\xff\xff":                            api.ErrForm,
		"\xff":                                api.ErrForm,
		"\x00":                                api.ErrForm,
		"\x00\x00":                            api.ErrForm,
		"\x00\x00" + box:                      api.ErrForm,
		"\x00\x00" + box + "\x00\x00":         api.OK,
		"\x00\x00" + box + "\x00\x01\x07":     api.OK,
		"\x00\x01" + box + "\x00\x00\x00\x00": api.ErrForm,
		"\x00\x01" + box + "\x00\x00\x00\x00\x31": api.OK,
		"\x00\x01" + box + "\x00\x00\x00\x00\xb1": api.ErrForm,
	} {
		_, e := flat.Flat([][]byte{[]byte(p), nil}, 0)
		_, partsErr := flat.Parts([]byte(p))
		if e != want || partsErr != want {
			t.Errorf("%x: %v, %v, not %v", p, e, partsErr, want)
		}
	}
}

// P14.2: ErrIndex: there is no glyph of that id.
func TestIndex(t *testing.T) {
	forms := []form{outline([]dot.Point{at(1, 2)}), made(3), made(0, 2), made(0, 65535), {}}
	for _, id := range []int{-1, 5, 6, 65535, 65536, math.MaxInt, math.MinInt} {
		wantErr(t, "asked", forms, id, api.ErrIndex)
		wantErr(t, "of none", nil, id, api.ErrIndex)
	}
	wantErr(t, "of none", []form{}, 0, api.ErrIndex)
	wantErr(t, "a part's part", forms, 1, api.ErrIndex)
	wantErr(t, "itself, behind others", forms, 2, api.ErrCycle)
	wantErr(t, "a part", forms, 3, api.ErrIndex)
	wantErr(t, "the last one", forms, 4, api.OK)
	wantErr(t, "one more", []form{made(1), made(2)}, 0, api.ErrIndex)
}

// P14.2: ErrCycle: a glyph is a part of itself, as deep as may be; one that is met again beside the way isn't.
func TestCycle(t *testing.T) {
	dotted := outline([]dot.Point{at(1, 2)})
	for n := 1; n <= mostDeep+1; n++ {
		for back := range n {
			wantErr(t, "a ring", chain(n, made(back)), 0, api.ErrCycle)
			wantErr(t, "a ring, entered elsewhere", chain(n, made(back)), n-1, api.ErrCycle)
		}
	}
	wantErr(t, "a ring too wide", chain(mostDeep+2, made(0)), 0, api.ErrDepth)
	wantErr(t, "one part twice", []form{dotted, made(0, 0, 0)}, 1, api.OK)
	wantErr(t, "one part's part twice", []form{dotted, made(0), made(1, 0), made(1, 2, 2, 0)}, 3, api.OK)
	wantErr(t, "a part that is a cycle", []form{made(1), made(1)}, 0, api.ErrCycle)
	wantErr(t, "behind a part", []form{made(1, 2), dotted, made(1, 0)}, 0, api.ErrCycle)
	wantErr(t, "behind a part that was left", []form{made(1, 2), made(2, 2), made(3, 3), made(4, 0), dotted}, 0, api.ErrCycle)
}

// P14.2: ErrDepth: a glyph stands deeper than MaxDepth, whatever it is.
func TestDepth(t *testing.T) {
	for _, last := range []form{{}, outline([]dot.Point{at(1, 2)})} {
		for n := 1; n < 2*mostDeep; n++ {
			want := api.OK
			if n > mostDeep+1 {
				want = api.ErrDepth
			}
			wantErr(t, "a chain", chain(n, last), 0, want)
			wantErr(t, "from the second one on", chain(n+1, last), 1, want)
		}
	}
	deep := append(chain(mostDeep+1, form{}), made(1, 1, 1), made(mostDeep, 1, 0))
	wantErr(t, "beside each other", deep, mostDeep+1, api.OK)
	wantErr(t, "the last part", deep, mostDeep+2, api.ErrDepth)
	wantErr(t, "bytes that are wrong, too deep", chain(mostDeep+2, bad()), 0, api.ErrDepth)
	wantErr(t, "bytes that are wrong, as deep as may be", chain(mostDeep+1, bad()), 0, api.ErrForm)
	wantErr(t, "none, too deep", chain(mostDeep+1, made(99)), 0, api.ErrIndex)
}

// crowd is forms of which glyph 3 meets n, itself with them, and then one part more.
func crowd(n int, more ...int) []form {
	n -= 2
	var parts []int
	for range n / 150 {
		parts = append(parts, 1)
	}
	parts = append(append(parts, 2), more...)
	return []form{{}, rows(149, 0), rows(n%150, 0), made(parts...)}
}

// P14.2: ErrOver: more than MaxFlat glyphs were met; one that is met again counts again.
func TestMet(t *testing.T) {
	for n := mostFlat - 3; n < mostFlat+4; n++ {
		want := api.OK
		if n > mostFlat {
			want = api.ErrOver
		}
		forms := crowd(n)
		w := plainWalk{forms: forms}
		if w.flat(3, nil); w.met != min(n, mostFlat+1) {
			t.Fatalf("%d met, not %d", w.met, n)
		}
		wantErr(t, "met", forms, 3, want)
	}
}

// P14.2: a glyph that is met too late has ErrOver ahead of what its bytes are, but behind what it is for the way.
func TestMetOrder(t *testing.T) {
	with := func(n, id int, more ...form) []form { return append(crowd(n, id), more...) }
	wantErr(t, "wrong bytes, too late", with(mostFlat, 4, bad()), 3, api.ErrOver)
	wantErr(t, "wrong bytes, the last one", with(mostFlat-1, 4, bad()), 3, api.ErrForm)
	wantErr(t, "none, too late", with(mostFlat, 4), 3, api.ErrIndex)
	wantErr(t, "itself, too late", with(mostFlat, 3), 3, api.ErrCycle)
	wantErr(t, "points, too late", with(mostFlat, 4, many(5)), 3, api.ErrOver)
	wantErr(t, "points, the last ones", with(mostFlat-1, 4, many(5)), 3, api.OK)
	wantErr(t, "parts, too late", with(mostFlat-1, 4, made(0)), 3, api.ErrOver)
	wantErr(t, "parts, the last ones", with(mostFlat-2, 4, made(0)), 3, api.OK)
	// 4 to 20 stand one below the other, so that 20 is a glyph too deep, and the first one too much.
	deep := with(mostFlat-mostDeep, 4, chain(mostDeep+1, bad())...)
	for i := 4; i < 4+mostDeep; i++ {
		deep[i] = made(i + 1)
	}
	wantErr(t, "too deep, and too late", deep, 3, api.ErrDepth)
	late := with(mostFlat-mostDeep+1, 4, chain(mostDeep+1, bad())...)
	copy(late[4:], deep[4:])
	wantErr(t, "too late, ahead of too deep", late, 3, api.ErrOver)
}

// P14.2: ErrOver: more than MaxFlat points in all.
func TestPoints(t *testing.T) {
	for n := mostFlat - 2; n < mostFlat+3; n++ {
		want := api.OK
		if n > mostFlat {
			want = api.ErrOver
		}
		wantErr(t, "one glyph", []form{many(n)}, 0, want)
		wantErr(t, "one part", []form{many(n), made(0)}, 1, want)
		wantErr(t, "as deep as may be", chain(mostDeep+1, many(n)), 0, want)
		wantErr(t, "two parts", []form{many(n - 7), many(7), made(0, 1)}, 2, want)
		wantErr(t, "two parts, one deeper", []form{many(n - 7), many(7), made(0), made(2, 3+1), made(1)}, 3, want)
	}
	wantErr(t, "one glyph, as often as may be", []form{many(100), rows(200, 0)}, 1, api.OK)
	wantErr(t, "one glyph, too often", []form{many(100), rows(200, 0), made(1, 0)}, 2, api.ErrOver)
	wantErr(t, "all points that may be", []form{many(65536)}, 0, api.ErrOver)
	wantErr(t, "points behind enough of them", []form{many(mostFlat), {}, made(0, 1, 1)}, 2, api.OK)
}

// P14.2: the first error that is met is told: a glyph's own ahead of its parts', one part's ahead of the next one's.
func TestOrder(t *testing.T) {
	forms := []form{
		many(mostFlat), bad(), made(2), made(99), // 0 to 3: too many with others, ErrForm, ErrCycle, ErrIndex
		many(1), made(0, 4), made(4, 0), // 4 to 6: one point, too many, too many
	}
	for first, want := range map[int]api.Errno{1: api.ErrForm, 2: api.ErrCycle, 3: api.ErrIndex, 5: api.ErrOver, 6: api.ErrOver, 98: api.ErrIndex} {
		for _, second := range []int{0, 1, 2, 3, 4, 5, 6, 98} {
			l := append(slices.Clone(forms), made(first, second), made(4, first, second), made(7, second), made(9))
			for _, id := range []int{7, 8, 9, 10} {
				wantErr(t, "two parts", l, id, want)
			}
		}
	}
	glyphs := [][]byte{append(made(99).bytesOf(0), 0, 0, 0, 0), append(made(0).bytesOf(0), 1)}
	wantFlat(t, "its bytes ahead of its parts'", glyphs, 0, nil, api.ErrForm)
	wantFlat(t, "its bytes ahead of its parts'", glyphs, 1, nil, api.ErrForm)
	wantFlat(t, "points behind bytes", [][]byte{append(many(mostFlat+1).bytesOf(0), 1)}, 0, nil, api.ErrForm)
}

// wantParts asks for the glyphs of which bytes are made, or for an error with none.
func wantParts(t *testing.T, p []byte, want []uint16, wantErr api.Errno) {
	t.Helper()
	if l, e := flat.Parts(p); e != wantErr || !slices.Equal(l, want) {
		t.Errorf("%.60x: %v, not %v: %v, not %v", p, e, wantErr, l, want)
	}
}

// P14.3: the glyphs of which a glyph's bytes are made, in order.
func TestParts(t *testing.T) {
	wantParts(t, nil, nil, api.OK)
	wantParts(t, []byte{}, nil, api.OK)
	ids := []uint16{7, 65535, 0, 7, 32768, 1}
	for n := range 8 {
		want := api.OK
		if n > 3 {
			want = api.ErrForm
		}
		dotted := outline([]dot.Point{at(1, 2), off(3, 4)}, []dot.Point{at(5, 6)})
		wantParts(t, dotted.bytesOf(n), nil, want)
		if n > 3 {
			wantParts(t, made(7, 65535).bytesOf(n), nil, api.ErrForm)
		} else {
			wantParts(t, made(7, 65535, 0, 7, 32768, 1).bytesOf(n), ids, api.OK)
			wantParts(t, rows(200, 3).bytesOf(n), slices.Repeat([]uint16{3}, 200), api.OK)
		}
		for i := range n {
			for _, f := range []form{dotted, made(7)} {
				p := f.bytesOf(n)
				p[len(p)-1-i] = 128
				wantParts(t, p, nil, api.ErrForm)
			}
		}
	}
	wantParts(t, bad().bytesOf(0), nil, api.ErrForm)
	wantParts(t, many(65536).bytesOf(1), nil, api.OK) // how many points may be is for Flat to ask
	wantParts(t, []byte{0}, nil, api.ErrForm)
}

// P14.3: bytes cut short anywhere are no glyph's, but for noughts behind them, and none.
func TestCutShort(t *testing.T) {
	code := compo.Part{Flags: compo.Places | compo.Code, Glyph: 2, M: dot.Unit()}
	coded := compo.Glyph{Parts: []compo.Part{stood(1, 2, 3), code}, Program: []byte("abc")}.Bytes()
	for _, p := range [][]byte{outline([]dot.Point{at(1, 2), off(300, -4)}).bytesOf(0), made(7, 8).bytesOf(0), coded} {
		for n := range p {
			want := api.ErrForm
			if n == 0 {
				want = api.OK
			}
			wantParts(t, p[:n], nil, want)
			wantParts(t, bytes.Clone(p[:n]), nil, want)
			wantFlat(t, "cut short", [][]byte{p[:n]}, 0, nil, want)
		}
	}
}

// P14.3: how many points.
func TestPointsOf(t *testing.T) {
	for _, c := range []struct {
		l    [][]dot.Point
		want int
	}{
		{nil, 0},
		{[][]dot.Point{}, 0},
		{[][]dot.Point{nil, {}}, 0},
		{[][]dot.Point{{at(0, 0)}}, 1},
		{[][]dot.Point{{at(1, 2), at(1, 2)}, nil, {at(1, 2)}, make([]dot.Point, 4, 9)}, 7},
		{many(65536).contours, 65536},
	} {
		if n := flat.Points(c.l); n != c.want {
			t.Errorf("%d, not %d: %.60v", n, c.want, c.l)
		}
	}
}

// P14.3: contours are the same just if all points are, contour by contour.
func TestSame(t *testing.T) {
	list := [][][]dot.Point{
		nil,
		{nil},
		{nil, nil},
		{{at(1, 2)}},
		{{off(1, 2)}},
		{{at(1, 3)}},
		{{at(2, 2)}},
		{{at(2, 1)}},
		{{at(1, 2)}, nil},
		{nil, {at(1, 2)}},
		{{at(1, 2), at(3, 4)}},
		{{at(3, 4), at(1, 2)}},
		{{at(1, 2)}, {at(3, 4)}},
		{{at(3, 4)}, {at(1, 2)}},
		{{at(1, 2)}, {off(3, 4)}},
		{{at(1, 2), at(3, 4)}, {at(5, 6)}},
		{{at(1, 2)}, {at(3, 4), at(5, 6)}},
		{{at(1, 2), at(3, 4), at(5, 6)}},
	}
	for i, a := range list {
		for j, b := range list {
			if flat.Same(a, b) != (i == j) {
				t.Errorf("%v, %v: %v", a, b, flat.Same(a, b))
			}
		}
	}
	if !flat.Same(nil, [][]dot.Point{}) || !flat.Same([][]dot.Point{{}, nil}, [][]dot.Point{nil, {}}) {
		t.Error("empty ones aren't")
	}
	if !flat.Same(many(999).contours, many(999).contours) || flat.Same(many(999).contours, many(998).contours) {
		t.Error("many")
	}
}

// mixer tells numbers below n, by one rule, the same each time.
func mixer() func(n int) int {
	state := uint64(14)
	return func(n int) int {
		state = state*6364136223846793005 + 1442695040888963407
		return int(state>>33) % n
	}
}

// mixedForm is a form of which parts are most often those ahead of it.
func mixedForm(next func(int) int, id int) form {
	var f form
	switch next(20) {
	case 0:
		return form{}
	case 1, 2, 3:
		for range 1 + next(3) {
			var c []dot.Point
			for range 1 + next(4) {
				c = append(c, dot.Point{X: next(2000) - 1000, Y: next(65536) / 2, On: next(2) == 0})
			}
			f.contours = append(f.contours, c)
		}
		return f
	case 4:
		if next(4) == 0 {
			return bad()
		}
	}
	for range 1 + next(3) {
		to := next(id + 1)
		if next(4) > 0 {
			to = max(id-1, 0)
		}
		if next(40) == 0 {
			to = next(70)
		}
		p := turned(to, next(65536)-32768, next(200), dot.Scale(int16(next(65536)-32768)))
		if next(2) == 0 {
			p.M.XY, p.M.YX = int16(next(65536)-32768), int16(next(9)-4)
		}
		f.parts = append(f.parts, p)
	}
	return f
}

// P14.1, P14.2: mixed glyphs are as the words say.
func TestMixed(t *testing.T) {
	next := mixer()
	told := map[api.Errno]int{}
	for range 200 {
		var forms []form
		for id := range 60 {
			forms = append(forms, mixedForm(next, id))
		}
		for range 40 {
			told[wantPlain(t, "mixed", forms, next(60))]++
		}
	}
	for _, e := range []api.Errno{api.OK, api.ErrIndex, api.ErrCycle, api.ErrForm, api.ErrDepth} {
		if told[e] < 20 {
			t.Errorf("%v: %d of %v", e, told[e], told)
		}
	}
}

// P14.2: glyphs whose parts grow many times a level have an end, and ErrOver.
func TestGrowing(t *testing.T) {
	var forms []form
	for i := range mostDeep {
		forms = append(forms, rows(200, i+1))
	}
	wantErr(t, "of nothing", append(forms, form{}), 0, api.ErrOver)
	wantErr(t, "of a point", append(forms, outline([]dot.Point{at(1, 2)})), 0, api.ErrOver)
	wantErr(t, "a level more", append(forms, rows(200, mostDeep+1), form{}), 0, api.ErrDepth)
}

// scribble writes over a list, spare room too.
func scribble[T any](l []T, with T) {
	l = l[:cap(l)]
	for i := range l {
		l[i] = with
	}
}

// scribbleContours writes over each contour, and over the list of them.
func scribbleContours(l [][]dot.Point) {
	for _, c := range l {
		scribble(c, dot.Point{X: -9999, Y: 9999})
	}
	scribble(l, nil)
}

// Memory: Flat changes and keeps nothing, and its answers share nothing.
func TestFlatMemory(t *testing.T) {
	forms := []form{outline([]dot.Point{at(1, 2), off(3, 4)}, []dot.Point{at(5, 6)}), made(0, 0), {parts: []compo.Part{stood(1, 7, 8), stood(0, 9, 10)}}}
	for id := range forms {
		want, _ := plainFlat(forms, id)
		glyphs, whole := bytesOf(forms), bytesOf(forms)
		for i := range glyphs {
			glyphs[i] = append(glyphs[i], "spare"...)[:len(whole[i])]
		}
		glyphs = append(glyphs, []byte("spare"))[:3]
		first, e := flat.Flat(glyphs, id)
		second, f := flat.Flat(glyphs, id)
		if e != api.OK || f != api.OK || string(glyphs[:4][3]) != "spare" {
			t.Fatalf("%v, %v: changed: %x", e, f, glyphs)
		}
		for i, p := range glyphs {
			if !bytes.Equal(p, whole[i]) || string(p[len(p) : len(p)+5][:5]) != "spare" {
				t.Errorf("changed: %x", p)
			}
			scribble(p, '#')
		}
		scribbleContours(second)
		if !plainSame(first, want) {
			t.Errorf("kept or shared with an answer: %v", first)
		}
		for i := range first {
			others := slices.Clone(first)
			for j := range others {
				others[j] = slices.Clone(first[j])
			}
			others[i] = slices.Repeat([]dot.Point{{X: -9999}}, len(first[i]))
			scribble(first[i], dot.Point{X: -9999})
			if !plainSame(first, others) {
				t.Errorf("contour %d is shared: %v", i, first)
			}
		}
	}
}

// Memory: Parts, Points and Same change and keep nothing.
func TestPartsMemory(t *testing.T) {
	p := append(made(3, 4).bytesOf(2), "spare"...)
	whole := bytes.Clone(p)
	first, _ := flat.Parts(p[:len(p)-5])
	second, _ := flat.Parts(p[:len(p)-5])
	if !bytes.Equal(p, whole) {
		t.Errorf("changed: %x", p)
	}
	scribble(p, '#')
	scribble(second, 9)
	if !slices.Equal(first, []uint16{3, 4}) {
		t.Errorf("kept or shared: %v", first)
	}
	l := append(many(250).contours, []dot.Point{at(7, 7)})[:3]
	flat.Points(l)
	flat.Same(l, l)
	if !plainSame(l[:4], append(many(250).contours, []dot.Point{at(7, 7)})) {
		t.Errorf("changed: %v", l)
	}
}
