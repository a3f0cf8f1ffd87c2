package font_test

import (
	"bytes"
	"encoding/binary"
	"maps"
	"math"
	"slices"
	"strings"
	"sync"
	"testing"

	"punchcut/api"
	"punchcut/cmap"
	"punchcut/compo"
	"punchcut/dot"
	"punchcut/flat"
	"punchcut/font"
	"punchcut/head"
	"punchcut/hmtx"
	"punchcut/maxp"
	"punchcut/seg"
	"punchcut/simple"
)

// The limits, as the document tells them.
const (
	mostBytes = 1 << 26
	mostIds   = 65535
	mostFlat  = 20000
)

var tags = []string{"cmap", "glyf", "head", "hhea", "hmtx", "loca", "maxp"}

// parts is what a font is made of.
type parts struct {
	head    head.Head
	hhea    hmtx.Hhea
	maxp    maxp.Maxp
	glyphs  [][]byte
	metrics []hmtx.Metric
	codes   []seg.Pair
	wide    bool
}

func (p parts) make() []byte {
	return font.Make(p.head, p.hhea, p.maxp, p.glyphs, p.metrics, p.codes, p.wide)
}

// corner is a glyph of three points; x makes it another one.
func corner(x int16) []byte {
	points := []simple.Spot{{On: true}, {X: x, On: true}, {X: x, Y: 20}}
	return simple.Glyph{Box: [4]int16{0, 0, x, 20}, Ends: []uint16{2}, Points: points}.Bytes()
}

// even is the bytes, with a nought behind them if they aren't even.
func even(p []byte) []byte {
	return append(slices.Clone(p), make([]byte, len(p)%2)...)
}

// rows is a glyph of n points.
func rows(n int) []byte {
	return simple.Glyph{Ends: []uint16{uint16(n - 1)}, Points: make([]simple.Spot, n)}.Bytes()
}

// made is a glyph made of others, each ten beside the one ahead.
func made(ids ...int) []byte {
	var g compo.Glyph
	for i, id := range ids {
		p := compo.Part{Flags: compo.Places | compo.Words, Glyph: uint16(id), X: int16(10 * i), M: dot.Unit()}
		g.Parts = append(g.Parts, p)
	}
	return g.Bytes()
}

// of is a font's parts with these glyphs; A to Z have the glyphs from 1 on, be they there or not.
func of(glyphs ...[]byte) parts {
	p := parts{head: head.Head{Units: 1000}, glyphs: glyphs}
	for i := range glyphs {
		p.metrics = append(p.metrics, hmtx.Metric{Advance: uint16(500 + i), Left: int16(-i)})
	}
	for code := 'A'; code <= 'Z'; code++ {
		p.codes = append(p.codes, seg.Pair{Code: code, Glyph: uint16(code - 'A' + 1)})
	}
	return p
}

// full is parts with something of all kinds: no bytes, an odd number of them, parts, a code beyond ffff.
func full() parts {
	p := of(nil, corner(7), append(corner(300), 0), made(1, 2, 3-2), nil, made(3), corner(9))
	p.head = head.Head{Revision: 0x01020304, Flags: 0x0506, Units: 1200, Created: 0x0708090a0b0c0d0e,
		Modified: 0x0f10111213141516, Box: [4]int16{-5, 6, -7, 8}, Style: 0x1718, Lowest: 0x191a, Hint: -2}
	for i := range 14 {
		p.hhea.Front[1+i] = uint16(0x2122 + 0x0202*i)
	}
	for i := range p.maxp.Rest {
		p.maxp.Rest[i] = uint16(0x4142 + 0x0202*i)
	}
	p.metrics[5].Advance = p.metrics[6].Advance
	p.codes = append(p.codes, seg.Pair{Code: 0x1f445, Glyph: 3})
	p.wide = true
	return p
}

// plainSum is the sum of words of four bytes, with noughts behind the last ones.
func plainSum(p []byte) uint32 {
	var sum uint32
	for i, b := range p {
		sum += uint32(b) << (24 - 8*(i%4))
	}
	return sum
}

// plainFont is a font of tables by the words of P3.1 and P3.3.
func plainFont(tables map[string][]byte) []byte {
	n := len(tables)
	greatest, exponent := 1, 0
	for greatest*2 <= n {
		greatest, exponent = greatest*2, exponent+1
	}
	f := []byte{0, 1, 0, 0}
	for _, number := range []int{n, 16 * greatest, exponent, 16*n - 16*greatest} {
		f = binary.BigEndian.AppendUint16(f, uint16(number))
	}
	at, adjust := 12+16*n, -1
	var all []byte
	for _, tag := range slices.Sorted(maps.Keys(tables)) {
		p := slices.Clone(tables[tag])
		if tag == "head" && len(p) >= 12 {
			copy(p[8:12], make([]byte, 4))
			adjust = at + 8
		}
		f = append(f, tag...)
		for _, number := range []uint32{plainSum(p), uint32(at), uint32(len(p))} {
			f = binary.BigEndian.AppendUint32(f, number)
		}
		for len(p)%4 != 0 {
			p = append(p, 0)
		}
		all = append(all, p...)
		at += len(p)
	}
	f = append(f, all...)
	if adjust >= 0 {
		binary.BigEndian.PutUint32(f[adjust:], 0xb1b0afba-plainSum(f))
	}
	return f
}

// numbers is two bytes of each number.
func numbers(l ...int) []byte {
	var p []byte
	for _, n := range l {
		p = binary.BigEndian.AppendUint16(p, uint16(n))
	}
	return p
}

// plainTables is the tables of parts that may be, by the words of P15.3; cmap is layer 11's.
func plainTables(p parts) map[string][]byte {
	var glyf []byte
	places := []int{0}
	for _, g := range p.glyphs {
		glyf = append(glyf, g...)
		if len(glyf)%2 == 1 {
			glyf = append(glyf, 0)
		}
		places = append(places, len(glyf))
	}
	h := p.head
	h.Long = len(glyf) > 131070
	var loca []byte
	for _, at := range places {
		if h.Long {
			loca = binary.BigEndian.AppendUint32(loca, uint32(at))
		} else {
			loca = append(loca, numbers(at/2)...)
		}
	}
	long := len(p.metrics)
	for long > 1 && p.metrics[long-1].Advance == p.metrics[long-2].Advance {
		long--
	}
	var hmtxTable []byte
	for i, m := range p.metrics {
		if i < long {
			hmtxTable = append(hmtxTable, numbers(int(m.Advance))...)
		}
		hmtxTable = append(hmtxTable, numbers(int(m.Left))...)
	}
	hhea := []byte{0, 1}
	for _, n := range p.hhea.Front {
		hhea = append(hhea, numbers(int(n))...)
	}
	hhea = append(hhea, numbers(long)...)
	maxpTable := append([]byte{0, 1, 0, 0}, numbers(len(p.glyphs))...)
	for _, n := range p.maxp.Rest {
		maxpTable = append(maxpTable, numbers(int(n))...)
	}
	return map[string][]byte{"cmap": cmap.Build(p.codes, p.wide), "glyf": glyf, "head": h.Bytes(), "hhea": hhea,
		"hmtx": hmtxTable, "loca": loca, "maxp": maxpTable}
}

// wantMake asks Make for the font of parts that may be, by the words, and hands it on.
func wantMake(t *testing.T, what string, p parts) []byte {
	t.Helper()
	f, want := p.make(), plainFont(plainTables(p))
	if !bytes.Equal(f, want) {
		t.Errorf("%s: %d bytes, not %d: %.300x\n%.300x", what, len(f), len(want), f, want)
	}
	return f
}

// wantNothing asks Make for nothing.
func wantNothing(t *testing.T, what string, p parts) {
	t.Helper()
	if f := p.make(); len(f) != 0 {
		t.Errorf("%s: %d bytes", what, len(f))
	}
}

// wantErr asks Valid, and a Font, for an error, and the Font, if there is one, for nothing else.
func wantErr(t *testing.T, what string, f []byte, want api.Errno) {
	t.Helper()
	if e := font.Valid(f); e != want {
		t.Errorf("%s: Valid: %v, not %v", what, e, want)
	}
	x := font.Open(f)
	if e := x.Err(); e != want {
		t.Errorf("%s: Err: %v, not %v", what, e, want)
	}
	if want != api.OK {
		wantEmpty(t, what, x)
	}
}

// wantEmpty asks a Font for nothing, but for its error and its counts.
func wantEmpty(t *testing.T, what string, x *font.Font) {
	t.Helper()
	if x.Count() != 0 || x.Head() != (head.Head{}) || x.Hhea() != (hmtx.Hhea{}) || x.Maxp() != (maxp.Maxp{}) {
		t.Errorf("%s: %d, %v, %v, %v", what, x.Count(), x.Head(), x.Hhea(), x.Maxp())
	}
	for _, id := range []int{math.MinInt, -1, 0, 1, 2, 65535, math.MaxInt} {
		wantNoGlyph(t, what, x, id)
	}
	for _, code := range []rune{math.MinInt32, -1, 0, 'A', 'B', 0xffff, 0x1f445, math.MaxInt32} {
		if n := x.Look(code); n != 0 {
			t.Errorf("%s: %x is %d", what, code, n)
		}
	}
}

// wantNoGlyph asks a Font for nothing of an id.
func wantNoGlyph(t *testing.T, what string, x *font.Font, id int) {
	t.Helper()
	m, there := x.Metric(id)
	if there || m != (hmtx.Metric{}) || len(x.Outline(id)) != 0 || len(x.Raw(id)) != 0 {
		t.Errorf("%s: glyph %d: %v, %v, %v, %x", what, id, m, there, x.Outline(id), x.Raw(id))
	}
}

// wantTold asks a Font for all that it was made of.
func wantTold(t *testing.T, what string, x *font.Font, p parts) {
	t.Helper()
	tables := plainTables(p)
	h, m, hhea := p.head, p.maxp, p.hhea
	h.Long = len(tables["glyf"]) > 131070
	h.Adjust = x.Head().Adjust
	m.Glyphs = uint16(len(p.glyphs))
	hhea.Long = binary.BigEndian.Uint16(tables["hhea"][34:])
	if x.Err() != api.OK || x.Count() != len(p.glyphs) || x.Head() != h || x.Hhea() != hhea || x.Maxp() != m {
		t.Errorf("%s: %v, %d, %v, %v, %v", what, x.Err(), x.Count(), x.Head(), x.Hhea(), x.Maxp())
	}
	for id, g := range p.glyphs {
		want := even(g)
		if got := x.Raw(id); !bytes.Equal(got, want) {
			t.Errorf("%s: glyph %d: %x, not %x", what, id, got, want)
		}
		if m, there := x.Metric(id); !there || m != p.metrics[id] {
			t.Errorf("%s: glyph %d: %v, %v", what, id, m, there)
		}
		l, e := flat.Flat(p.glyphs, id)
		if e != api.OK || !flat.Same(x.Outline(id), l) {
			t.Errorf("%s: glyph %d: %v, %v, %v", what, id, e, x.Outline(id), l)
		}
	}
	wantNoGlyph(t, what, x, -1)
	wantNoGlyph(t, what, x, len(p.glyphs))
	for _, c := range p.codes {
		want := c.Glyph
		if int(want) >= len(p.glyphs) {
			want = 0
		}
		if n := x.Look(c.Code); n != want {
			t.Errorf("%s: %x is %d, not %d", what, c.Code, n, want)
		}
	}
}

// scribble writes over a list and over its spare room.
func scribble[T any](l []T, with T) {
	l = l[:cap(l)]
	for i := range l {
		l[i] = with
	}
}

// P15.3: the font byte by byte, of a glyph of one byte less than even; its sums by hand.
func TestMakeWrittenOut(t *testing.T) {
	g := []byte("\x00\x00\x00\x00\x00\x00\x00\x00\x00\x00\x00\x01\x09")
	p := parts{head: head.Head{Units: 0x10, Adjust: 77, Long: true}, hhea: hmtx.Hhea{Long: 7}, maxp: maxp.Maxp{Glyphs: 9},
		glyphs: [][]byte{g}, metrics: []hmtx.Metric{{Advance: 5, Left: 6}}}
	want := "\x00\x01\x00\x00\x00\x07\x00\x40\x00\x02\x00\x30" +
		"cmap\x00\x0c\x00\x26\x00\x00\x00\x7c\x00\x00\x00\x24" +
		"glyf\x09\x00\x00\x01\x00\x00\x00\xa0\x00\x00\x00\x0e" +
		"head\x5f\x10\x3d\x05\x00\x00\x00\xb0\x00\x00\x00\x36" +
		"hhea\x00\x01\x00\x01\x00\x00\x00\xe8\x00\x00\x00\x24" +
		"hmtx\x00\x05\x00\x06\x00\x00\x01\x0c\x00\x00\x00\x04" +
		"loca\x00\x00\x00\x07\x00\x00\x01\x10\x00\x00\x00\x04" +
		"maxp\x00\x02\x00\x00\x00\x00\x01\x14\x00\x00\x00\x20" +
		"\x00\x00\x00\x01\x00\x03\x00\x01\x00\x00\x00\x0c" +
		"\x00\x04\x00\x18\x00\x00\x00\x02\x00\x02\x00\x00\x00\x00\xff\xff\x00\x00\xff\xff\x00\x01\x00\x00" +
		string(g) + "\x00\x00\x00" +
		"\x00\x01\x00\x00\x00\x00\x00\x00\x00\x00\x00\x00\x5f\x0f\x3c\xf5\x00\x00\x00\x10" + strings.Repeat("\x00", 36) +
		"\x00\x01" + strings.Repeat("\x00", 33) + "\x01" +
		"\x00\x05\x00\x06" +
		"\x00\x00\x00\x07" +
		"\x00\x01\x00\x00\x00\x01" + strings.Repeat("\x00", 26)
	f := p.make()
	if len(f) != len(want) {
		t.Fatalf("%d bytes, not %d: %x", len(f), len(want), f)
	}
	at := 0xb0 + 8
	if sum := binary.BigEndian.Uint32(f[at:]); sum != 0xb1b0afba-plainSum([]byte(want)) {
		t.Errorf("the whole sum: %x", sum)
	}
	copy(f[at:], make([]byte, 4))
	if string(f) != want {
		t.Errorf("%x, not\n%x", f, want)
	}
}

// P15.3: Make by the words, of parts of all kinds; what it makes tells its parts again.
func TestMake(t *testing.T) {
	slim := full()
	slim.wide = false
	slim.codes = slim.codes[:len(slim.codes)-1]
	none := full()
	none.codes = nil
	wrong := full()
	wrong.head.Long, wrong.head.Adjust, wrong.hhea.Long, wrong.maxp.Glyphs = true, 99, 0, 0
	same := full()
	for i := range same.metrics {
		same.metrics[i].Advance = 600
	}
	cases := map[string]parts{"all kinds": full(), "segments": slim, "no codes": none, "numbers that are laid over": wrong,
		"one Advance": same, "one glyph": of(nil), "one with bytes": of(corner(5)), "Units 16": of(nil), "Units 16384": of(nil)}
	for what, units := range map[string]uint16{"Units 16": 16, "Units 16384": 16384} {
		p := cases[what]
		p.head.Units = units
		cases[what] = p
	}
	for what, p := range cases {
		f := wantMake(t, what, p)
		wantErr(t, what, f, api.OK)
		p.head.Adjust = 0
		wantTold(t, what, font.Open(f), p)
	}
}

// P15.3: loca is long from 131072 bytes of glyphs on; odd glyphs are filled, so that they alone don't make it so.
func TestMakeLong(t *testing.T) {
	program := func(n int) []byte { return simple.Glyph{Program: make([]byte, n)}.Bytes() }
	for _, c := range []struct {
		size int
		long bool
	}{{131070, false}, {131069, false}, {131071, true}, {131072, true}} {
		p := of(program(40000), program(40000), program(c.size-2*40012-12), nil)
		f := wantMake(t, "long", p)
		x := font.Open(f)
		wantTold(t, "long", x, p)
		if x.Head().Long != c.long {
			t.Errorf("%d: %v", c.size, x.Head().Long)
		}
	}
	wantMake(t, "odd", of(program(1), program(3), program(5), nil, program(7)))
}

// P15.3: of as many glyphs as may be a font, of one more nothing.
func TestMakeMost(t *testing.T) {
	p := of(make([][]byte, mostIds+1)...)
	wantNothing(t, "too many", p)
	p.glyphs, p.metrics = p.glyphs[:mostIds], p.metrics[:mostIds]
	p.glyphs[mostIds-1] = corner(1)
	p.codes = append(p.codes, seg.Pair{Code: 0x1000, Glyph: mostIds - 1}, seg.Pair{Code: 0x1002, Glyph: mostIds})
	f := wantMake(t, "the most", p)
	x := font.Open(f)
	if x.Err() != api.OK || x.Count() != mostIds || x.Look(0x1000) != mostIds-1 || x.Look(0x1002) != 0 || len(x.Outline(mostIds-1)) != 1 {
		t.Error(x.Err(), x.Count(), x.Look(0x1000), x.Look(0x1002))
	}
	p.glyphs = append(p.glyphs, nil)
	wantNothing(t, "a glyph more", p)
}

// P15.3: of numbers that no font may have, and of lists that aren't as long as they should be, nothing.
func TestMakeNothing(t *testing.T) {
	for what, change := range map[string]func(p *parts){
		"no glyphs":         func(p *parts) { p.glyphs, p.metrics = nil, nil },
		"no glyphs, but":    func(p *parts) { p.glyphs = nil },
		"no metrics":        func(p *parts) { p.metrics = nil },
		"a metric less":     func(p *parts) { p.metrics = p.metrics[1:] },
		"a metric more":     func(p *parts) { p.metrics = append(p.metrics, hmtx.Metric{}) },
		"no Units":          func(p *parts) { p.head = head.Head{} },
		"Units 15":          func(p *parts) { p.head.Units = 15 },
		"Units 16385":       func(p *parts) { p.head.Units = 16385 },
		"the version":       func(p *parts) { p.hhea.Front[0] = 1 },
		"the form":          func(p *parts) { p.hhea.Front[15] = 1 },
		"codes that fall":   func(p *parts) { p.codes[0].Code = 'B' },
		"a code below 0":    func(p *parts) { p.codes[0].Code = -1 },
		"a code too far":    func(p *parts) { p.codes[len(p.codes)-1].Code = 0x110000 },
		"ffff, by segments": func(p *parts) { p.wide = false; p.codes[len(p.codes)-1].Code = 0xffff },
		"10000, likewise":   func(p *parts) { p.wide = false; p.codes[len(p.codes)-1].Code = 0x10000 },
	} {
		p := full()
		change(&p)
		wantNothing(t, what, p)
	}
	wantNothing(t, "nothing", parts{})
	p := full()
	p.codes = nil
	for i := range 8000 {
		p.codes = append(p.codes, seg.Pair{Code: rune(2 * i), Glyph: 1})
	}
	wantMake(t, "so many groups", p)
	p.wide = false
	wantNothing(t, "a segment too many", p)
	p.codes = p.codes[1:]
	wantMake(t, "the most segments", p)
}

// P15.3: of glyphs that are more than MaxBytes nothing; of a font that has just as many bytes all, of one of more nothing.
func TestMakeTooLong(t *testing.T) {
	long := make([]byte, mostBytes)
	wantNothing(t, "glyphs alone", of(long, []byte{1}))
	wantNothing(t, "with the tables", of(long))
	shared := make([][]byte, mostIds)
	for i := range shared {
		shared[i] = long
	}
	wantNothing(t, "far more than there is memory", of(shared...))
	front := len(of(long[:200000]).make()) - 200000
	if f := of(long[:mostBytes-front]).make(); len(f) != mostBytes {
		t.Errorf("the most: %d", len(f))
	}
	wantNothing(t, "two more", of(long[:mostBytes-front+2]))
	wantNothing(t, "one more", of(long[:mostBytes-front+1]))
	if f := of(long[:mostBytes-front-1]).make(); len(f) != mostBytes {
		t.Errorf("the most, filled: %d", len(f))
	}
}

// P15.1: nothing, and what layer 3 doesn't read, has its error.
func TestValidForm(t *testing.T) {
	wantErr(t, "nil", nil, api.ErrForm)
	wantErr(t, "nothing", []byte{}, api.ErrForm)
	f := full().make()
	for n := range f {
		wantErr(t, "cut short", f[:n:n], api.ErrForm)
		wantErr(t, "with room", f[:n], api.ErrForm)
	}
	wantErr(t, "whole", f, api.OK)
	wantErr(t, "noughts behind", append(slices.Clone(f), 0, 0, 0, 0), api.OK)
	wantErr(t, "something behind", append(slices.Clone(f), 0, 0, 0, 1), api.ErrSum)
}

// P15.1: each byte that is turned is seen, by the form or by a sum.
func TestValidTurned(t *testing.T) {
	f := full().make()
	for i := range f {
		g := slices.Clone(f)
		g[i] ^= 0x10
		want := api.ErrSum
		if e := font.Valid(g); e == api.ErrForm && i < 12+16*7 {
			want = api.ErrForm
		}
		wantErr(t, "turned", g, want)
	}
}

// P15.1: more than MaxBytes bytes are ErrLong, ahead of all; as many aren't.
func TestValidLong(t *testing.T) {
	f := make([]byte, mostBytes+1)
	wantErr(t, "noughts", f, api.ErrLong)
	wantErr(t, "noughts, one less", f[:mostBytes:mostBytes], api.ErrForm)
	copy(f, full().make())
	wantErr(t, "a font", f, api.ErrLong)
	wantErr(t, "a font, one less", f[:mostBytes], api.OK)
	f[len(f)-2] = 1
	wantErr(t, "a wrong sum", f, api.ErrLong)
	wantErr(t, "a wrong sum, one less", f[:mostBytes], api.ErrSum)
	wantErr(t, "far more", make([]byte, 2*mostBytes), api.ErrLong)
}

// P15.1: each of the seven tables has to be there; others may be.
func TestValidTables(t *testing.T) {
	for _, p := range []parts{full(), of(nil), of(nil, nil)} {
		tables := plainTables(p)
		wantErr(t, "all", plainFont(tables), api.OK)
		for _, tag := range tags {
			some := maps.Clone(tables)
			delete(some, tag)
			wantErr(t, "without "+tag, plainFont(some), api.ErrForm)
			some[strings.ToUpper(tag)] = tables[tag]
			wantErr(t, "in capitals: "+tag, plainFont(some), api.ErrForm)
		}
		more := maps.Clone(tables)
		more["OS/2"], more["name"], more["zzzz"] = []byte{1, 2, 3}, nil, []byte("zzzzz")
		wantErr(t, "with others", plainFont(more), api.OK)
		wantTold(t, "with others", font.Open(plainFont(more)), p)
	}
	wantErr(t, "another alone", plainFont(map[string][]byte{"name": {1}}), api.ErrForm)
}

// P15.1: each table has to be read by its layer.
func TestValidUnread(t *testing.T) {
	for _, p := range []parts{full(), of(nil), of(corner(3), nil)} {
		tables := plainTables(p)
		for _, tag := range tags {
			if tag == "glyf" {
				continue
			}
			for what, data := range map[string][]byte{
				"nothing":   nil,
				"one less":  tables[tag][:len(tables[tag])-1],
				"one":       {0},
				"otherwise": bytes.Repeat([]byte{0xfe}, len(tables[tag])),
			} {
				if tag == "hmtx" && what == "otherwise" {
					continue
				}
				some := maps.Clone(tables)
				some[tag] = data
				wantErr(t, tag+": "+what, plainFont(some), api.ErrForm)
			}
			if tag != "cmap" {
				some := maps.Clone(tables)
				some[tag] = append(slices.Clone(tables[tag]), 0)
				wantErr(t, tag+": one more", plainFont(some), api.ErrForm)
			}
		}
	}
}

// P15.1: hmtx is read by hhea's Long and maxp's Glyphs; that these don't go together is ErrForm, too, not ErrArg.
func TestValidMetrics(t *testing.T) {
	p := of(nil, nil, nil)
	tables := plainTables(p)
	for long := range 6 {
		for size := range 20 {
			some := maps.Clone(tables)
			some["hhea"] = append(slices.Clone(tables["hhea"][:34]), numbers(long)...)
			some["hmtx"] = make([]byte, size)
			want := api.ErrForm
			if long >= 1 && long <= 3 && size == 2*long+2*3 {
				want = api.OK
			}
			wantErr(t, "metrics", plainFont(some), want)
		}
	}
	some := maps.Clone(tables)
	some["hhea"] = append(slices.Clone(tables["hhea"][:34]), numbers(2)...)
	some["hmtx"] = numbers(11, 12, 21, 22, 32)
	x := font.Open(plainFont(some))
	for id, want := range []hmtx.Metric{{Advance: 11, Left: 12}, {Advance: 21, Left: 22}, {Advance: 21, Left: 32}} {
		if m, there := x.Metric(id); !there || m != want {
			t.Errorf("%d: %v, %v", id, m, there)
		}
	}
}

// P15.1: loca is read by head's Long, by maxp's Glyphs, and by how many bytes glyf has.
func TestValidPlaces(t *testing.T) {
	g := even(corner(5))
	half := len(g) / 2
	p := of(g, nil)
	long := func(l ...int) []byte {
		var q []byte
		for _, n := range l {
			q = append(q, 0, 0)
			q = append(q, numbers(n)...)
		}
		return q
	}
	isLong := p.head
	isLong.Long = true
	for what, c := range map[string]struct {
		loca []byte
		head head.Head
		want api.Errno
	}{
		"as made":              {numbers(0, half, half), p.head, api.OK},
		"the other one":        {numbers(0, 0, half), p.head, api.OK},
		"not to the end":       {numbers(0, 0, 0), p.head, api.OK},
		"not from 0 on":        {numbers(half, half, half), p.head, api.OK},
		"beyond the end":       {numbers(0, half, half+1), p.head, api.ErrForm},
		"falling":              {numbers(0, half, half-1), p.head, api.ErrForm},
		"one less":             {numbers(0, half), p.head, api.ErrForm},
		"one more":             {numbers(0, half, half, half), p.head, api.ErrForm},
		"long, by head not":    {long(0, 2*half, 2*half), p.head, api.ErrForm},
		"long":                 {long(0, 2*half, 2*half), isLong, api.OK},
		"long, beyond the end": {long(0, 2*half, 2*half+1), isLong, api.ErrForm},
		"not long, by head":    {numbers(0, half, half), isLong, api.ErrForm},
		"cut":                  {numbers(0, half-1, half-1), p.head, api.ErrForm},
	} {
		tables := plainTables(p)
		tables["loca"], tables["head"] = c.loca, c.head.Bytes()
		wantErr(t, what, plainFont(tables), c.want)
	}
	tables := plainTables(p)
	tables["loca"] = numbers(0, 0, half)
	if x := font.Open(plainFont(tables)); len(x.Raw(0)) != 0 || !bytes.Equal(x.Raw(1), g) {
		t.Errorf("%x, %x", x.Raw(0), x.Raw(1))
	}
	tables["glyf"] = append(tables["glyf"], 1, 2, 3)
	wantErr(t, "more behind", plainFont(tables), api.OK)
}

// P15.1: of each glyph Flat's error, that of the first glyph that has one.
func TestValidGlyphs(t *testing.T) {
	bad := []byte{1, 2, 3}
	deep := [][]byte{nil}
	for id := range 17 {
		deep = append(deep, made(id))
	}
	for what, c := range map[string]struct {
		glyphs [][]byte
		want   api.Errno
	}{
		"no bytes":             {[][]byte{nil}, api.OK},
		"bytes that are none":  {[][]byte{bad}, api.ErrForm},
		"two noughts":          {[][]byte{append(made(1), 0, 0), nil}, api.OK},
		"three, filled":        {[][]byte{append(made(1), 0, 0, 0), nil}, api.ErrForm},
		"four noughts":         {[][]byte{append(made(1), 0, 0, 0, 0), nil}, api.ErrForm},
		"one that isn't there": {[][]byte{nil, made(2)}, api.ErrIndex},
		"itself":               {[][]byte{nil, made(1)}, api.ErrCycle},
		"a round":              {[][]byte{nil, made(2), made(0, 1)}, api.ErrCycle},
		"sixteen deep":         {deep[:17], api.OK},
		"seventeen deep":       {deep, api.ErrDepth},
		"20000 points":         {[][]byte{rows(mostFlat)}, api.OK},
		"20001 points":         {[][]byte{rows(mostFlat + 1)}, api.ErrOver},
		"as many by parts":     {[][]byte{rows(mostFlat / 2), made(0, 0)}, api.OK},
		"too many by parts":    {[][]byte{rows(mostFlat/2 + 1), made(0, 0)}, api.ErrOver},
		"the first one counts": {[][]byte{nil, made(9), bad, made(3)}, api.ErrIndex},
		"though it is greater": {[][]byte{nil, made(1), made(9), bad}, api.ErrCycle},
		"a bad part":           {[][]byte{made(1, 9), bad}, api.ErrForm},
		"the last one":         {[][]byte{nil, corner(3), made(1), bad}, api.ErrForm},
	} {
		p := of(c.glyphs...)
		wantErr(t, what, p.make(), c.want)
		// What layer 3 says, and what a table says, are ahead of that.
		f := p.make()
		f[len(f)-1]++
		wantErr(t, what+", a sum", f, api.ErrSum)
		tables := plainTables(p)
		tables["cmap"] = numbers(0, 0)
		wantErr(t, what+", no map", plainFont(tables), api.ErrForm)
	}
}

// P15.1: a wrong sum is ahead of a table that isn't there, or isn't right.
func TestValidOrder(t *testing.T) {
	for _, tag := range tags {
		tables := plainTables(full())
		delete(tables, tag)
		f := plainFont(tables)
		f[len(f)-5]++
		wantErr(t, "without "+tag, f, api.ErrSum)
		tables[tag] = []byte{1}
		f = plainFont(tables)
		f[len(f)-5]++
		wantErr(t, "wrong "+tag, f, api.ErrSum)
	}
}

// P15.2: nothing is read till something is asked, whatever that is; it is read once.
func TestRead(t *testing.T) {
	right, wrong := full().make(), []byte("wrong")
	for what, ask := range map[string]func(x *font.Font){
		"Err":     func(x *font.Font) { x.Err() },
		"Count":   func(x *font.Font) { x.Count() },
		"Look":    func(x *font.Font) { x.Look('A') },
		"Outline": func(x *font.Font) { x.Outline(1) },
		"Metric":  func(x *font.Font) { x.Metric(1) },
		"Raw":     func(x *font.Font) { x.Raw(1) },
		"Head":    func(x *font.Font) { x.Head() },
		"Hhea":    func(x *font.Font) { x.Hhea() },
		"Maxp":    func(x *font.Font) { x.Maxp() },
	} {
		for _, f := range [][]byte{right, wrong, nil} {
			x := font.Open(f)
			if x.Read() != 0 || x.Asked() != 0 || x.Read() != 0 {
				t.Errorf("%s: ahead: %d, %d", what, x.Read(), x.Asked())
			}
			for range 3 {
				ask(x)
				if x.Read() != 1 {
					t.Errorf("%s: %d", what, x.Read())
				}
			}
			if asked := x.Asked(); asked != 3 && what == "Look" || asked != 0 && what != "Look" {
				t.Errorf("%s: asked %d", what, asked)
			}
			x.Err()
			x.Count()
			if x.Read() != 1 {
				t.Errorf("%s: behind: %d", what, x.Read())
			}
		}
	}
}

// P15.2: Looks are counted, those of codes that have no glyph, and those of a font that isn't Valid, too.
func TestAsked(t *testing.T) {
	for _, f := range [][]byte{full().make(), []byte("wrong"), nil} {
		x := font.Open(f)
		for i, code := range []rune{'A', 'A', 'Z', 0x1f445, -1, math.MaxInt32, 0} {
			x.Look(code)
			if x.Asked() != int64(i+1) {
				t.Errorf("%x: %d", code, x.Asked())
			}
		}
	}
	a, b := font.Open(full().make()), font.Open(full().make())
	a.Look('A')
	if a.Asked() != 1 || b.Asked() != 0 || b.Read() != 0 {
		t.Error(a.Asked(), b.Asked(), b.Read())
	}
}

// P15.2: Look is cmap's, but 0 of a glyph that isn't there.
func TestLook(t *testing.T) {
	p := of(nil, nil, nil)
	p.codes = []seg.Pair{{Code: 0, Glyph: 2}, {Code: 5, Glyph: 0}, {Code: 9, Glyph: 2}, {Code: 10, Glyph: 3}, {Code: 20, Glyph: mostIds}}
	for _, wide := range []bool{false, true} {
		p.wide = wide
		x := font.Open(p.make())
		for code, want := range map[rune]uint16{0: 2, 5: 0, 9: 2, 10: 0, 20: 0, 1: 0, 11: 0, -1: 0, 0xffff: 0, 0x10ffff: 0} {
			if n := x.Look(code); n != want {
				t.Errorf("%x: %d, not %d", code, n, want)
			}
		}
	}
}

// P15.2: an outline is Flat's, with its parts where they stand.
func TestOutline(t *testing.T) {
	x := font.Open(full().make())
	l := x.Outline(5)
	if len(l) != 3 || l[0][1] != (dot.Point{X: 7, On: true}) || l[1][1] != (dot.Point{X: 310, On: true}) || l[2][2] != (dot.Point{X: 27, Y: 20}) {
		t.Error(l)
	}
	if len(x.Outline(0)) != 0 || len(x.Outline(7)) != 0 || len(x.Outline(-1)) != 0 {
		t.Error("none")
	}
}

// P15.2: Head is as the font has it, with what makes its sum whole.
func TestHead(t *testing.T) {
	f := full().make()
	h := full().head
	h.Adjust = font.Open(f).Head().Adjust
	at := bytes.Index(f, []byte{0x5f, 0x0f, 0x3c, 0xf5}) - 4
	if h.Adjust != binary.BigEndian.Uint32(f[at:]) || h.Adjust == 0 || font.Open(f).Head() != h {
		t.Error(font.Open(f).Head())
	}
}

// P15.2: a nil font has ErrNone, and nothing else.
func TestNil(t *testing.T) {
	var x *font.Font
	if x.Err() != api.ErrNone || x.Asked() != 0 || x.Read() != 0 {
		t.Error(x.Err(), x.Asked(), x.Read())
	}
	wantEmpty(t, "nil", x)
	if x.Err() != api.ErrNone || x.Asked() != 0 || x.Read() != 0 {
		t.Error("behind:", x.Err(), x.Asked(), x.Read())
	}
}

// P15.2: a font is read once, and each of its Looks is counted, though many ask at once.
func TestManyAtOnce(t *testing.T) {
	p := full()
	for _, f := range [][]byte{p.make(), []byte("wrong")} {
		want := uint16(1)
		if font.Valid(f) != api.OK {
			want = 0
		}
		x := font.Open(f)
		start := make(chan bool)
		var group sync.WaitGroup
		for i := range 50 {
			group.Go(func() {
				<-start
				for range 200 {
					if x.Look('A') != want || x.Err() != font.Valid(nil) && x.Err() != api.OK || x.Count() != 7*int(want) {
						t.Errorf("%d: %d, %v, %d", i, x.Look('A'), x.Err(), x.Count())
					}
					if m, there := x.Metric(3); there != (want == 1) || there && m != p.metrics[3] {
						t.Errorf("%d: %v, %v", i, m, there)
					}
					if n := x.Read(); n != 1 {
						t.Errorf("%d: read %d", i, n)
					}
				}
			})
		}
		close(start)
		group.Wait()
		if x.Asked() != 50*200 || x.Read() != 1 {
			t.Error(x.Asked(), x.Read())
		}
	}
}

// Memory: what Open is handed may be written over, ahead of the reading and behind it.
func TestMemoryOpen(t *testing.T) {
	p := full()
	want := p.make()
	for _, ahead := range []bool{true, false} {
		room := append(slices.Clone(want), 1, 2, 3, 4)
		f := room[:len(want)]
		x := font.Open(f)
		if !ahead {
			x.Err()
		}
		if !bytes.Equal(f, want) || !bytes.Equal(room[len(want):], []byte{1, 2, 3, 4}) {
			t.Error("changed")
		}
		scribble(f, 0xee)
		wantTold(t, "written over", x, p)
	}
	f := slices.Clone(want)
	if font.Valid(f) != api.OK || !bytes.Equal(f, want) {
		t.Error("Valid changed it")
	}
}

// Memory: answers are new, each time.
func TestMemoryAnswers(t *testing.T) {
	p := full()
	x := font.Open(p.make())
	for range 2 {
		for id := range p.glyphs {
			scribble(x.Raw(id), 0xee)
			for _, c := range x.Outline(id) {
				scribble(c, dot.Point{X: 99})
			}
			scribble(x.Outline(id), nil)
		}
		wantTold(t, "written over", x, p)
	}
	a, b := x.Outline(5), x.Outline(5)
	scribble(a[0], dot.Point{X: 99})
	if flat.Same(a, b) || !flat.Same(b, x.Outline(5)) {
		t.Error("shared")
	}
	h := x.Hhea()
	h.Front[3]++
	m := x.Maxp()
	m.Rest[3]++
	if x.Hhea() == h || x.Maxp() == m {
		t.Error("values are shared")
	}
}

// Memory: what Make is handed isn't changed, nor its spare room, and isn't kept.
func TestMemoryMake(t *testing.T) {
	p := full()
	want := p.make()
	p.glyphs = append(p.glyphs, []byte{1}, []byte{2})[:len(p.glyphs)]
	p.metrics = append(p.metrics, hmtx.Metric{Advance: 1})[:len(p.metrics)]
	p.codes = append(p.codes, seg.Pair{Code: 1})[:len(p.codes)]
	for i, g := range p.glyphs {
		p.glyphs[i] = append(slices.Clone(g), 7, 8, 9)[:len(g)]
	}
	f := p.make()
	if !bytes.Equal(f, want) {
		t.Error("another font")
	}
	q := full()
	for i, g := range p.glyphs {
		if !bytes.Equal(g[:len(g)+3], append(slices.Clone(q.glyphs[i]), 7, 8, 9)) {
			t.Errorf("glyph %d: %x", i, g[:len(g)+3])
		}
	}
	n := len(p.glyphs)
	if !slices.Equal(p.metrics[:n+1], append(q.metrics, hmtx.Metric{Advance: 1})) || !slices.Equal(p.codes, q.codes) ||
		p.codes[:len(p.codes)+1][len(p.codes)] != (seg.Pair{Code: 1}) || p.glyphs[:n+2][n][0] != 1 || p.glyphs[:n+2][n+1][0] != 2 {
		t.Error("changed")
	}
	for _, g := range p.glyphs {
		scribble(g, 0xee)
	}
	scribble(p.glyphs, nil)
	scribble(p.metrics, hmtx.Metric{})
	scribble(p.codes, seg.Pair{})
	if !bytes.Equal(f, want) {
		t.Error("kept")
	}
	scribble(f, 0xee)
	if !bytes.Equal(full().make(), want) {
		t.Error("answers share memory")
	}
}

// mixer tells numbers below n, the same in each run.
func mixer() func(n int) int {
	state := uint64(77)
	return func(n int) int {
		state = state*6364136223846793005 + 1442695040888963407
		return int(state>>33) % n
	}
}

// mixed is parts of some glyphs, among them such as aren't right.
func mixed(mix func(n int) int) parts {
	var glyphs [][]byte
	for range 1 + mix(8) {
		g := [][]byte{nil, corner(int16(mix(1000))), made(mix(9)), made(mix(4), mix(3)), corner(3)}[mix(5)]
		if mix(40) == 0 {
			g = []byte{1, 2, 3}
		}
		glyphs = append(glyphs, g)
	}
	p := of(glyphs...)
	p.wide = mix(2) == 0
	p.head.Units = uint16(16 + mix(16000))
	for i := range p.metrics {
		p.metrics[i] = hmtx.Metric{Advance: uint16(mix(3)), Left: int16(mix(1000) - 500)}
	}
	return p
}

// P15.1 to P15.3: many fonts against the words; and with bytes that are turned they have an answer, too.
func TestMixed(t *testing.T) {
	mix := mixer()
	seen := map[api.Errno]int{}
	for range 2000 {
		p := mixed(mix)
		f := wantMake(t, "mixed", p)
		want := api.OK
		for id := range p.glyphs {
			if _, e := flat.Flat(p.glyphs, id); e != api.OK {
				want = e
				break
			}
		}
		seen[want]++
		wantErr(t, "mixed", f, want)
		if want == api.OK {
			wantTold(t, "mixed", font.Open(f), p)
		}
		tables := plainTables(p)
		tag := tags[mix(len(tags))]
		if data := tables[tag]; len(data) > 0 {
			data[mix(len(data))] = byte(mix(256))
		}
		g := plainFont(tables)
		wantErr(t, "turned", g, font.Valid(g))
	}
	if seen[api.OK] < 200 || seen[api.ErrForm] < 20 || seen[api.ErrIndex] < 20 || seen[api.ErrCycle] < 20 {
		t.Error(seen)
	}
}
