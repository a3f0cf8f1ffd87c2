package simple_test

import (
	"bytes"
	"slices"
	"testing"

	"punchcut/api"
	"punchcut/dot"
	"punchcut/simple"
)

// plainNumber is a number of two bytes with its sign, by itself; false: p is shorter.
func plainNumber(p []byte) (int, bool) {
	if len(p) < 2 {
		return 0, false
	}
	n := int(p[0])<<8 | int(p[1])
	if n >= 0x8000 {
		n -= 0x10000
	}
	return n, true
}

// plainFlags tells n flags by the words of P12.2, and how many bytes they have; false: P12.3 forbids them.
func plainFlags(p []byte, n int) (flags []byte, size int, ok bool) {
	for len(flags) < n {
		if size >= len(p) || p[size]&128 != 0 {
			return nil, 0, false
		}
		flag, times := p[size], 1
		size++
		if flag&8 != 0 {
			if size >= len(p) {
				return nil, 0, false
			}
			times += int(p[size])
			size++
		}
		for ; times > 0; times-- {
			flags = append(flags, flag)
		}
	}
	return flags, size, len(flags) == n
}

// plainPlaces tells a coordinate of each point by the words of P12.2: one byte if the bit one is in its flag.
func plainPlaces(p, flags []byte, one, other byte) (places []int, size int, ok bool) {
	place := 0
	for _, flag := range flags {
		rest := p[size:]
		if flag&one != 0 {
			if len(rest) < 1 {
				return nil, 0, false
			}
			if flag&other != 0 {
				place += int(rest[0])
			} else {
				place -= int(rest[0])
			}
			size++
		} else if flag&other == 0 {
			n, there := plainNumber(rest)
			if !there {
				return nil, 0, false
			}
			place += n
			size += 2
		}
		if place < -32768 || place > 32767 {
			return nil, 0, false
		}
		places = append(places, place)
	}
	return places, size, true
}

// plainParse reads a glyph by the words of P12.2 and P12.3.
func plainParse(p []byte) (g simple.Glyph, size int, ok bool) {
	number := func() int {
		n, there := plainNumber(p[min(size, len(p)):])
		ok = ok && there
		size += 2
		return n
	}
	ok = true
	n := number()
	if !ok || n < 0 {
		return simple.Glyph{}, 0, false
	}
	for i := range g.Box {
		g.Box[i] = int16(number())
	}
	count := 0
	for range n {
		end := int(uint16(number()))
		if !ok || end < count {
			return simple.Glyph{}, 0, false
		}
		g.Ends = append(g.Ends, uint16(end))
		count = end + 1
	}
	length := int(uint16(number()))
	if !ok || length > len(p)-size {
		return simple.Glyph{}, 0, false
	}
	g.Program = bytes.Clone(p[size : size+length])
	size += length
	flags, more, flagsOk := plainFlags(p[size:], count)
	if !flagsOk {
		return simple.Glyph{}, 0, false
	}
	size += more
	xs, more, xsOk := plainPlaces(p[size:], flags, 2, 16)
	size += more
	if !xsOk {
		return simple.Glyph{}, 0, false
	}
	ys, more, ysOk := plainPlaces(p[size:], flags, 4, 32)
	size += more
	if !ysOk {
		return simple.Glyph{}, 0, false
	}
	for i := range count {
		g.Points = append(g.Points, simple.Spot{X: int16(xs[i]), Y: int16(ys[i]), On: flags[i]&1 != 0})
	}
	return g, size, true
}

// plainChange is what P12.3 lays of a change: its bits, and its bytes.
func plainChange(n int, one, other byte) (byte, []byte) {
	switch {
	case n == 0:
		return other, nil
	case n > 0 && n < 256:
		return one | other, []byte{byte(n)}
	case n < 0 && n > -256:
		return one, []byte{byte(-n)}
	default:
		return 0, []byte{byte(uint16(n) >> 8), byte(n)}
	}
}

// plainBytes lays a glyph that is Right by the words of P12.2 and P12.3.
func plainBytes(g simple.Glyph) []byte {
	p := []byte{byte(len(g.Ends) >> 8), byte(len(g.Ends))}
	for _, n := range g.Box {
		p = append(p, byte(uint16(n)>>8), byte(n))
	}
	for _, n := range g.Ends {
		p = append(p, byte(n>>8), byte(n))
	}
	p = append(p, byte(len(g.Program)>>8), byte(len(g.Program)))
	p = append(p, g.Program...)
	var flags, xs, ys []byte
	x, y := 0, 0
	for _, s := range g.Points {
		xBits, xBytes := plainChange(int(s.X)-x, 2, 16)
		yBits, yBytes := plainChange(int(s.Y)-y, 4, 32)
		flag := xBits | yBits
		if s.On {
			flag++
		}
		flags, xs, ys = append(flags, flag), append(xs, xBytes...), append(ys, yBytes...)
		x, y = int(s.X), int(s.Y)
	}
	times := 0
	for i, flag := range flags {
		times++
		if i+1 < len(flags) && flags[i+1] == flag && times < 256 {
			continue
		}
		if times > 1 {
			p = append(p, flag+8, byte(times-1))
		} else {
			p = append(p, flag)
		}
		times = 0
	}
	return append(append(p, xs...), ys...)
}

// plainRight tells by the words of P12.1 whether a glyph may be.
func plainRight(g simple.Glyph) bool {
	count := 0
	for _, end := range g.Ends {
		if int(end) < count {
			return false
		}
		count = int(end) + 1
	}
	if len(g.Ends) > 32767 || len(g.Points) != count || len(g.Program) > 65535 {
		return false
	}
	x, y := 0, 0
	for _, s := range g.Points {
		dx, dy := int(s.X)-x, int(s.Y)-y
		if dx > 32767 || dx < -32768 || dy > 32767 || dy < -32768 {
			return false
		}
		x, y = int(s.X), int(s.Y)
	}
	return true
}

// plainSame holds glyphs against each other field by field.
func plainSame(a, b simple.Glyph) bool {
	for i := range a.Box {
		if a.Box[i] != b.Box[i] {
			return false
		}
	}
	return slices.Equal(a.Ends, b.Ends) && string(a.Program) == string(b.Program) && slices.Equal(a.Points, b.Points)
}

// empty tells whether nothing is in a glyph.
func empty(g simple.Glyph) bool {
	return g.Box == [4]int16{} && len(g.Ends) == 0 && len(g.Program) == 0 && len(g.Points) == 0
}

// wantForm asks for ErrForm, and for nothing beside it.
func wantForm(t *testing.T, what string, p []byte) {
	t.Helper()
	g, n, e := simple.Parse(p)
	if e != api.ErrForm || n != 0 || !empty(g) {
		t.Errorf("%s: %.60x: %v, %d, %v", what, p, e, n, len(g.Points))
	}
}

// wantPlain asks Parse for what the words say of p, and tells whether that is a glyph.
func wantPlain(t *testing.T, what string, p []byte) bool {
	t.Helper()
	want, size, ok := plainParse(p)
	if !ok {
		wantForm(t, what, p)
		return false
	}
	g, n, e := simple.Parse(p)
	if e != api.OK || n != size || !plainSame(g, want) {
		t.Errorf("%s: %.60x: %v, %d, not %d: %v", what, p, e, n, size, len(g.Points))
	}
	return true
}

// wantBytes asks for a glyph's bytes, and that Parse tells it of these, whatever stands behind them.
func wantBytes(t *testing.T, what string, g simple.Glyph) {
	t.Helper()
	p, want := g.Bytes(), plainBytes(g)
	if !g.Right() || !bytes.Equal(p, want) {
		t.Errorf("%s: right: %v, %.60x, not %.60x", what, g.Right(), p, want)
		return
	}
	for _, behind := range []string{"", "\x00", "\xff\xff\xff", "behind"} {
		h, n, e := simple.Parse(append(bytes.Clone(p), behind...))
		if e != api.OK || n != len(p) || !plainSame(g, h) || !simple.Same(g, h) {
			t.Errorf("%s: back: %v, %d of %d", what, e, n, len(p))
		}
	}
}

// wantWrong asks that a glyph has neither bytes nor contours.
func wantWrong(t *testing.T, what string, g simple.Glyph) {
	t.Helper()
	if g.Right() || len(g.Bytes()) != 0 || len(g.Contours()) != 0 {
		t.Errorf("%s: right: %v, %d bytes, %d contours", what, g.Right(), len(g.Bytes()), len(g.Contours()))
	}
}

// line is n points beside one another, of one contour.
func line(n int) simple.Glyph {
	g := simple.Glyph{Ends: []uint16{uint16(n - 1)}, Points: make([]simple.Spot, n)}
	for i := range g.Points {
		g.Points[i] = simple.Spot{X: int16(i % 2), Y: 7, On: true}
	}
	return g
}

// contours is n contours of one point each.
func contours(n int) simple.Glyph {
	g := simple.Glyph{Ends: make([]uint16, n), Points: make([]simple.Spot, n)}
	for i := range g.Ends {
		g.Ends[i] = uint16(i)
	}
	return g
}

// sample has all that a glyph may have.
func sample() simple.Glyph {
	return simple.Glyph{
		Box: [4]int16{-32768, -2, 3, 32767}, Ends: []uint16{0, 3, 4}, Program: []byte("abc"),
		Points: []simple.Spot{{X: 1, Y: -1, On: true}, {X: 1, Y: 300}, {X: -254, Y: 300}, {X: -255, Y: 44, On: true}, {X: 2}},
	}
}

// P12.2, P12.3: the chapter's example, and others whose bytes are written out.
func TestWrittenOut(t *testing.T) {
	for _, c := range []struct {
		g simple.Glyph
		p string
	}{
		{simple.Glyph{}, "\x00\x00\x00\x00\x00\x00\x00\x00\x00\x00\x00\x00"},
		{simple.Glyph{Box: [4]int16{1, -2, 3, 4}, Program: []byte{0xb0}},
			"\x00\x00\x00\x01\xff\xfe\x00\x03\x00\x04\x00\x01\xb0"},
		{simple.Glyph{Ends: []uint16{0}, Points: []simple.Spot{{X: 1, Y: -1, On: true}}},
			"\x00\x01\x00\x00\x00\x00\x00\x00\x00\x00\x00\x00\x00\x00\x17\x01\x01"},
		{simple.Glyph{Ends: []uint16{1}, Points: []simple.Spot{{}, {X: -256, Y: 256, On: true}}},
			"\x00\x01\x00\x00\x00\x00\x00\x00\x00\x00\x00\x01\x00\x00\x30\x01\xff\x00\x01\x00"},
		{simple.Glyph{Ends: []uint16{2}, Points: []simple.Spot{{X: 255, Y: 1}, {X: 256, Y: 256}, {X: 257, Y: 256}}},
			"\x00\x01\x00\x00\x00\x00\x00\x00\x00\x00\x00\x02\x00\x00\x3e\x01\x32\xff\x01\x01\x01\xff"},
		// The changes of X are 1, 0, -255, -1, 257; those of Y -1, 301, 0, -256, -44.
		{sample(), "\x00\x03\x80\x00\xff\xfe\x00\x03\x7f\xff\x00\x00\x00\x03\x00\x04\x00\x03abc" +
			"\x17\x10\x22\x03\x04" + "\x01\xff\x01\x01\x01" + "\x01\x01\x2d\xff\x00\x2c"},
	} {
		if string(c.g.Bytes()) != c.p {
			t.Errorf("%x, not %x", c.g.Bytes(), c.p)
		}
		wantBytes(t, "written out", c.g)
	}
}

// P12.2, P12.3: each flag of one point, with what it says of the changes; 64 is nothing, 128 may not be.
func TestParseFlags(t *testing.T) {
	front := make([]byte, 14)
	front[1] = 1
	for flag := range 256 {
		rest := []byte{byte(flag)}
		if flag&8 != 0 {
			rest = append(rest, 0)
		}
		want := simple.Spot{On: flag%2 == 1}
		switch {
		case flag&2 != 0 && flag&16 != 0:
			rest, want.X = append(rest, 0x81), 0x81
		case flag&2 != 0:
			rest, want.X = append(rest, 0x82), -0x82
		case flag&16 == 0:
			rest, want.X = append(rest, 0x83, 0x84), -0x7c7c
		}
		switch {
		case flag&4 != 0 && flag&32 != 0:
			rest, want.Y = append(rest, 0x91), 0x91
		case flag&4 != 0:
			rest, want.Y = append(rest, 0x92), -0x92
		case flag&32 == 0:
			rest, want.Y = append(rest, 0x93, 0x94), -0x6c6c
		}
		p := append(bytes.Clone(front), rest...)
		if flag >= 128 {
			wantForm(t, "a flag with 128", p)
			continue
		}
		g, n, e := simple.Parse(append(bytes.Clone(p), 9, 9))
		if e != api.OK || n != len(p) || len(g.Points) != 1 || g.Points[0] != want {
			t.Errorf("flag %x: %v, %d, %v, not %v", flag, e, n, g.Points, want)
		}
		for i := range p {
			wantForm(t, "cut short", p[:i])
			wantForm(t, "cut short, without spare room", p[:i:i])
		}
	}
}

// P12.2: a change of one byte may be nought, above or below 0; one of two bytes may be small.
func TestParseLongWays(t *testing.T) {
	p := []byte{0, 1, 0, 0, 0, 0, 0, 0, 0, 0, 0, 3, 0, 0, 0x36, 0x06, 0x00, 0x41, 0, 0, 0, 1, 0xff, 0xff, 0, 0, 0, 0, 0, 2}
	g, n, e := simple.Parse(p)
	want := []simple.Spot{{}, {}, {X: 1}, {Y: 2, On: true}}
	if e != api.OK || n != len(p) || !slices.Equal(g.Points, want) {
		t.Errorf("%v, %d, %v", e, n, g.Points)
	}
}

// P12.2, P12.3: a flag that holds for more points, up to as many as there are, and for one more.
func TestParseRows(t *testing.T) {
	for _, points := range []int{1, 2, 3, 4, 255, 256, 257, 258} {
		for _, more := range []int{0, 1, 2, 3, 254, 255} {
			last := points - 1
			p := []byte{0, 1, 0, 0, 0, 0, 0, 0, 0, 0, byte(last >> 8), byte(last), 0, 0, 0x3f, byte(more)}
			held := more + 1
			for range points - held {
				p = append(p, 0x37)
			}
			p = append(p, bytes.Repeat([]byte{3}, 2*points)...)
			if held > points {
				wantForm(t, "a flag for too many points", append(p, make([]byte, 4*held)...))
				continue
			}
			g, n, e := simple.Parse(p)
			if e != api.OK || n != len(p) || len(g.Points) != points {
				t.Errorf("%d points, %d more: %v, %d of %d, %d points", points, more, e, n, len(p), len(g.Points))
				continue
			}
			for i, s := range g.Points {
				if s != (simple.Spot{X: int16(3 * (i + 1)), Y: int16(3 * (i + 1)), On: true}) {
					t.Fatalf("%d points, %d more: %d is %v", points, more, i, s)
				}
			}
			wantForm(t, "rows, cut short", p[:len(p)-1])
		}
	}
}

// P12.2: what a flag holds for, it holds whole: each point has its own changes, of one byte or of two.
func TestParseRowOfWords(t *testing.T) {
	p := []byte{0, 1, 0, 0, 0, 0, 0, 0, 0, 0, 0, 2, 0, 0, 0x2c, 1, 0x48, 0, 1, 0, 0, 2, 0xff, 0xff, 5, 6, 0xff, 0xfe}
	g, n, e := simple.Parse(p)
	want := []simple.Spot{{X: 256, Y: 5}, {X: 258, Y: 11}, {X: 257, Y: 9}}
	if e != api.OK || n != len(p) || !slices.Equal(g.Points, want) {
		t.Errorf("%v, %d, %v", e, n, g.Points)
	}
}

// P12.3: as many Ends as there may be, and a number of these that is below 0.
func TestParseEnds(t *testing.T) {
	for _, n := range []int{0, 1, 2, 255, 256, 32766, 32767} {
		wantBytes(t, "contours of one point", contours(n))
	}
	for _, n := range []byte{0x80, 0x81, 0xff} {
		p := append(contours(1).Bytes(), make([]byte, 1<<18)...)
		p[0] = n
		wantForm(t, "fewer Ends than none", p)
		p[1] = 0
		wantForm(t, "fewer Ends than none", p)
	}
}

// P12.3: Ends that rise, stay, or fall.
func TestParseEndsRise(t *testing.T) {
	for _, ends := range [][]uint16{
		{0, 1}, {0, 0}, {1, 0}, {1, 1}, {0, 5}, {5, 0}, {0, 2, 1}, {0, 1, 2}, {2, 1, 3}, {0, 1, 1}, {0, 0, 1}, {4, 5, 9},
		{0, 0x100}, {0xff, 0x100}, {0x100, 0xff}, {0x7fff, 0x8000}, {0x8000, 0x7fff}, {0, 0xffff}, {0xffff, 0}, {0xffff, 0xffff},
	} {
		p := []byte{0, byte(len(ends)), 0, 0, 0, 0, 0, 0, 0, 0}
		for _, end := range ends {
			p = append(p, byte(end>>8), byte(end))
		}
		p = append(p, 0, 0)
		points := int(slices.Max(ends)) + 1
		p = append(p, bytes.Repeat([]byte{0x31}, points)...)
		rises := slices.IsSorted(ends) && len(slices.Compact(slices.Clone(ends))) == len(ends)
		if wantPlain(t, "Ends", p) != rises {
			t.Errorf("%v: rises: %v", ends, rises)
		}
		g := simple.Glyph{Ends: ends, Points: make([]simple.Spot, points)}
		for i := range g.Points {
			g.Points[i].On = true
		}
		if g.Right() != rises {
			t.Errorf("%v: right: %v", ends, g.Right())
		}
	}
}

// P12.3: places that are just in reach, and those that are beyond it, of both coordinates.
func TestParsePlaces(t *testing.T) {
	front := []byte{0, 1, 0, 0, 0, 0, 0, 0, 0, 0, 0, 2, 0, 0}
	for _, c := range []struct {
		flags   string
		changes string
		ok      bool
	}{
		{"\x20\x32\x30", "\x7f\xfe\x01", true},
		{"\x20\x32\x30", "\x7f\xff\x01", false},
		{"\x20\x32\x22", "\x7f\xff\x01\x01", false},
		{"\x20\x20\x30", "\x7f\xff\x00\x01", false},
		{"\x20\x20\x20", "\x40\x00\x3f\xff\x80\x00", true},
		{"\x20\x20\x20", "\x40\x00\x40\x00\x80\x00", false},
		{"\x20\x22\x30", "\x80\x01\x01", true},
		{"\x20\x22\x30", "\x80\x00\x01", false},
		{"\x20\x20\x30", "\x80\x00\xff\xff", false},
		{"\x20\x20\x20", "\x80\x00\x7f\xff\x7f\xff", true},
		{"\x20\x20\x20", "\x80\x00\x80\x00\x7f\xff", false},
		{"\x20\x30\x22", "\x80\x00\x00", true},
		{"\x20\x30\x22", "\x80\x00\x01", false},
		{"\x20\x30\x32", "\x7f\xff\x00", true},
		{"\x20\x30\x32", "\x7f\xff\xff", false},
	} {
		p := append(append(bytes.Clone(front), c.flags...), c.changes...)
		if wantPlain(t, "places of X", p) != c.ok {
			t.Errorf("%x %x: in reach: %v", c.flags, c.changes, c.ok)
		}
		q := bytes.Clone(front)
		for _, flag := range []byte(c.flags) {
			q = append(q, 0x10*(flag&0x20>>5)|flag&0x10<<1|flag&2<<1)
		}
		if wantPlain(t, "places of Y", append(q, c.changes...)) != c.ok {
			t.Errorf("%x %x: in reach: %v", c.flags, c.changes, c.ok)
		}
	}
}

// P12.3: glyphs that are cut short at any place, with spare room and without, and what stands behind one.
func TestParseCut(t *testing.T) {
	for _, g := range []simple.Glyph{{}, sample(), line(300), contours(3), {Program: make([]byte, 300)}} {
		p := g.Bytes()
		for i := range p {
			wantForm(t, "cut short", p[:i])
			wantForm(t, "cut short, without spare room", p[:i:i])
		}
		wantBytes(t, "whole", g)
		long := append(bytes.Clone(p), make([]byte, 1<<20)...)
		if h, n, e := simple.Parse(long); e != api.OK || n != len(p) || !simple.Same(g, h) {
			t.Errorf("with a long rest: %v, %d of %d", e, n, len(p))
		}
	}
}

// P12.3: the longest glyph that may be is read whole: each flag stands for itself, and yet has a byte behind it.
func TestParseLongest(t *testing.T) {
	g := simple.Glyph{Ends: make([]uint16, 32767), Program: bytes.Repeat([]byte("prog."), 13107)}
	for i := range g.Ends {
		g.Ends[i] = uint16(2*i + 3)
	}
	p := plainBytes(g)
	p = append(p, bytes.Repeat([]byte{8, 0}, 65536)...)
	for i := range 2 * 65536 {
		p = append(p, 0, byte(1-i%2))
		g.Points = append(g.Points, simple.Spot{})
	}
	g.Points = g.Points[:65536]
	x, y := 0, 0
	for i := range g.Points {
		x, y = x+1-i%2, y+1-i%2
		g.Points[i] = simple.Spot{X: int16(x), Y: int16(y)}
	}
	if x != 32768 {
		t.Fatalf("%d", x)
	}
	wantForm(t, "too far out", p)
	// The last step out is left away; then all are in reach.
	for _, at := range []int{len(p) - 2*65536 - 3, len(p) - 3} {
		p[at] = 0
	}
	for i := 65534; i < 65536; i++ {
		g.Points[i].X, g.Points[i].Y = 32767, 32767
	}
	h, n, e := simple.Parse(append(bytes.Clone(p), 1, 2, 3))
	if e != api.OK || n != len(p) || !plainSame(g, h) {
		t.Errorf("%v, %d of %d", e, n, len(p))
	}
	wantForm(t, "the longest, cut short", p[:len(p)-1])
	wantBytes(t, "the longest", g)
}

// P12.1, P12.2: as long a Program as may be, and a longer one.
func TestProgram(t *testing.T) {
	for _, n := range []int{0, 1, 255, 256, 257, 65534, 65535} {
		g := sample()
		g.Program = bytes.Repeat([]byte("p"), n)
		wantBytes(t, "a Program", g)
	}
	for _, n := range []int{65536, 65537, 1 << 17} {
		g := sample()
		g.Program = make([]byte, n)
		wantWrong(t, "a Program that is too long", g)
		wantWrong(t, "a Program that is too long", simple.Glyph{Program: make([]byte, n)})
	}
}

// P12.1: as many Ends as may be, and more.
func TestRightEnds(t *testing.T) {
	for _, n := range []int{32766, 32767} {
		if !contours(n).Right() {
			t.Errorf("%d Ends aren't right", n)
		}
	}
	for _, n := range []int{32768, 32769, 65535, 65536} {
		wantWrong(t, "too many Ends", contours(n))
	}
}

// P12.1: as many Points as the last End and 1; of no Ends none.
func TestRightPoints(t *testing.T) {
	for _, n := range []int{1, 2, 3, 255, 256, 257, 65535, 65536} {
		g := line(n)
		wantBytes(t, "points", g)
		fewer := g
		fewer.Points = g.Points[:n-1]
		wantWrong(t, "a point too few", fewer)
		more := g
		more.Points = append(slices.Clone(g.Points), g.Points[0])
		wantWrong(t, "a point too many", more)
		g.Points = nil
		wantWrong(t, "no points", g)
	}
	wantWrong(t, "points without an End", simple.Glyph{Points: make([]simple.Spot, 1)})
	wantWrong(t, "points without an End", simple.Glyph{Ends: []uint16{}, Points: make([]simple.Spot, 65536)})
	wantWrong(t, "an End without points", simple.Glyph{Ends: []uint16{0}})
	wantBytes(t, "of nothing", simple.Glyph{})
	wantBytes(t, "of empty lists", simple.Glyph{Ends: []uint16{}, Program: []byte{}, Points: []simple.Spot{}})
}

// P12.1, P12.3: how far a point may be from the one ahead, and how many bytes that has.
func TestChanges(t *testing.T) {
	edges := []int{-32768, -32767, -32766, -16385, -16384, -16383, -257, -256, -255, -254, -1, 0, 1, 254, 255, 256, 257, 16383,
		16384, 32766, 32767}
	right, wrong := 0, 0
	for _, a := range edges {
		for _, b := range edges {
			alongX := simple.Glyph{Ends: []uint16{1}, Points: []simple.Spot{{X: int16(a)}, {X: int16(b), On: true}}}
			alongY := simple.Glyph{Ends: []uint16{0, 1}, Points: []simple.Spot{{Y: int16(a), On: true}, {Y: int16(b)}}}
			for _, g := range []simple.Glyph{alongX, alongY} {
				if b-a > 32767 || b-a < -32768 {
					wantWrong(t, "too far apart", g)
					wrong++
				} else {
					wantBytes(t, "apart", g)
					right++
				}
			}
		}
	}
	if right < 100 || wrong < 50 {
		t.Errorf("%d, %d", right, wrong)
	}
}

// P12.3: of points in a row of one flag at most 256 have it once, the rest once more.
func TestBytesRows(t *testing.T) {
	for n, want := range map[int]string{
		1: "\x37", 2: "\x3f\x01", 3: "\x3f\x02", 255: "\x3f\xfe", 256: "\x3f\xff", 257: "\x3f\xff\x37",
		258: "\x3f\xff\x3f\x01", 511: "\x3f\xff\x3f\xfe", 512: "\x3f\xff\x3f\xff", 513: "\x3f\xff\x3f\xff\x37",
	} {
		g := simple.Glyph{Ends: []uint16{uint16(n - 1)}, Points: make([]simple.Spot, n)}
		for i := range g.Points {
			g.Points[i] = simple.Spot{X: int16(i + 1), Y: int16(2*i + 2), On: true}
		}
		wantBytes(t, "a row", g)
		if p := g.Bytes(); string(p[14:len(p)-2*n]) != want {
			t.Errorf("%d: %x, not %x", n, p[14:len(p)-2*n], want)
		}
	}
}

// P12.3: flags that are alike stand once just if they stand in a row.
func TestBytesBroken(t *testing.T) {
	g := simple.Glyph{Ends: []uint16{2, 5}, Points: []simple.Spot{
		{On: true}, {On: true}, {}, {On: true}, {On: true}, {On: true},
	}}
	if p := g.Bytes(); string(p[16:]) != "\x39\x01\x30\x39\x02" {
		t.Errorf("%x", p[16:])
	}
	wantBytes(t, "broken", g)
}

// P12.1: the points of each contour.
func TestContours(t *testing.T) {
	g := sample()
	want := [][]dot.Point{
		{{X: 1, Y: -1, On: true}},
		{{X: 1, Y: 300}, {X: -254, Y: 300}, {X: -255, Y: 44, On: true}},
		{{X: 2}},
	}
	if got := g.Contours(); !slices.EqualFunc(got, want, slices.Equal) {
		t.Errorf("%v", got)
	}
	if l := (simple.Glyph{Program: []byte{1}}).Contours(); len(l) != 0 {
		t.Errorf("of no Ends: %v", l)
	}
	for _, n := range []int{1, 2, 300, 32767} {
		l := contours(n).Contours()
		if len(l) != n || slices.ContainsFunc(l, func(c []dot.Point) bool { return !slices.Equal(c, []dot.Point{{}}) }) {
			t.Errorf("of %d: %d", n, len(l))
		}
	}
	l := line(65536).Contours()
	if len(l) != 1 || len(l[0]) != 65536 || l[0][65535] != (dot.Point{X: 1, Y: 7, On: true}) {
		t.Errorf("%d", len(l))
	}
}

// P12.3: glyphs are alike just if all is.
func TestSame(t *testing.T) {
	list := []simple.Glyph{{}, sample(), {Points: []simple.Spot{{}}}, {Ends: []uint16{0}}, {Program: []byte{0}},
		{Ends: []uint16{0, 0}}, {Program: []byte{0, 0}}, {Program: []byte{1}}, {Ends: []uint16{1}}}
	for i := range 4 {
		g, h := sample(), simple.Glyph{}
		g.Box[i]++
		h.Box[i] = 1
		list = append(list, g, h)
	}
	for _, change := range []func(*simple.Glyph){
		func(g *simple.Glyph) { g.Ends[0]++ },
		func(g *simple.Glyph) { g.Ends[2]-- },
		func(g *simple.Glyph) { g.Ends = g.Ends[:2] },
		func(g *simple.Glyph) { g.Program[2]++ },
		func(g *simple.Glyph) { g.Program = g.Program[:2] },
		func(g *simple.Glyph) { g.Points[0].X++ },
		func(g *simple.Glyph) { g.Points[4].Y++ },
		func(g *simple.Glyph) { g.Points[2].On = true },
		func(g *simple.Glyph) { g.Points = g.Points[:4] },
		func(g *simple.Glyph) { g.Points[0], g.Points[1] = g.Points[1], g.Points[0] },
	} {
		g := sample()
		change(&g)
		list = append(list, g)
	}
	for i, a := range list {
		for j, b := range list {
			if simple.Same(a, b) != (i == j) {
				t.Errorf("%d, %d: %v", i, j, simple.Same(a, b))
			}
		}
	}
	if !simple.Same(simple.Glyph{}, simple.Glyph{Ends: []uint16{}, Program: []byte{}, Points: []simple.Spot{}}) {
		t.Error("nil and empty lists aren't alike")
	}
	if !simple.Same(sample(), sample()) {
		t.Error("two samples aren't alike")
	}
}

// P12.3: each byte of glyphs, turned to each other one.
func TestTurnedBytes(t *testing.T) {
	right, wrong := 0, 0
	for _, g := range []simple.Glyph{{}, sample(), contours(3), line(5), {Program: []byte{1, 2}}} {
		p := append(g.Bytes(), 1, 2, 3)
		for i := range p {
			for b := range 256 {
				q := bytes.Clone(p)
				q[i] = byte(b)
				if wantPlain(t, "a turned byte", q) {
					right++
				} else {
					wrong++
				}
			}
		}
	}
	if right < 5000 || wrong < 5000 {
		t.Errorf("%d are right, %d wrong", right, wrong)
	}
}

// mixer answers numbers below one that is given, always the same row of them.
func mixer() func(n int) int {
	state := uint32(1)
	return func(n int) int {
		state = state*1664525 + 1013904223
		return int(state>>8) % n
	}
}

// mixed is a glyph that is often Right.
func mixed(next func(int) int) simple.Glyph {
	var g simple.Glyph
	for i := range g.Box {
		g.Box[i] = int16(next(65536))
	}
	count := 0
	for range next(5) {
		count += next(6)
		g.Ends = append(g.Ends, uint16(count))
		count++
	}
	if next(8) == 0 && len(g.Ends) > 0 {
		g.Ends[next(len(g.Ends))] = uint16(next(8))
	}
	for range next(4) {
		g.Program = append(g.Program, byte(next(256)))
	}
	if next(8) == 0 {
		count += next(3)
	}
	reach := []int{2, 5, 300, 600, 30000, 65536}[next(6)]
	for range count {
		s := simple.Spot{X: int16(next(reach) - reach/2), Y: int16(next(reach) - reach/2), On: next(2) == 0}
		g.Points = append(g.Points, s)
	}
	return g
}

// P12.1, P12.2, P12.3: glyphs and bytes at random.
func TestMixed(t *testing.T) {
	next := mixer()
	right, read := 0, 0
	for range 20000 {
		g := mixed(next)
		if !plainRight(g) {
			wantWrong(t, "mixed", g)
			continue
		}
		right++
		wantBytes(t, "mixed", g)
		p := append(g.Bytes(), byte(next(256)), byte(next(256)))
		for range 1 + next(4) {
			p[next(len(p))] = byte(next(256))
		}
		if wantPlain(t, "mixed bytes", p) {
			read++
		}
	}
	if right < 5000 || right > 19000 || read < 1000 || read > right-1000 {
		t.Errorf("%d are right, %d read", right, read)
	}
}

// P12.3: what Parse tells is Right, and its Bytes, be they others than those that were read, are read as the same.
func TestParseIsRight(t *testing.T) {
	next := mixer()
	n := 0
	for range 20000 {
		p := make([]byte, 12, 60)
		p[1] = byte(next(3))
		last := -1
		for range p[1] {
			last += 1 + next(5)
			p = append(p[:len(p)-2], 0, byte(last), 0, 0)
		}
		for range next(50) {
			p = append(p, byte(next(128)&^next(16)))
		}
		if !wantPlain(t, "points at random", p) {
			continue
		}
		n++
		g, _, _ := simple.Parse(p)
		q := g.Bytes()
		h, _, e := simple.Parse(q)
		if !g.Right() || e != api.OK || !simple.Same(g, h) {
			t.Fatalf("%x: %v, %v, %x", p, g.Right(), e, q)
		}
	}
	if n < 2000 {
		t.Errorf("%d are right", n)
	}
}

// scribble writes over a list, spare room too.
func scribble[T any](l []T, with T) {
	l = l[:cap(l)]
	for i := range l {
		l[i] = with
	}
}

// scribbleGlyph writes over all of a glyph's lists.
func scribbleGlyph(g simple.Glyph) {
	scribble(g.Ends, 0x2323)
	scribble(g.Program, '#')
	scribble(g.Points, simple.Spot{X: 0x23, Y: 0x23})
}

// roomy is the glyph with spare room behind its lists.
func roomy(g simple.Glyph) simple.Glyph {
	g.Ends = append(slices.Clone(g.Ends), 9, 9)[:len(g.Ends)]
	g.Program = append(slices.Clone(g.Program), 9, 9)[:len(g.Program)]
	g.Points = append(slices.Clone(g.Points), simple.Spot{X: 9}, simple.Spot{X: 9})[:len(g.Points)]
	return g
}

// Memory: Parse changes and keeps nothing, and its answers share nothing.
func TestParseMemory(t *testing.T) {
	right := sample().Bytes()
	room := append(bytes.Clone(right), "spare"...)
	whole := bytes.Clone(room)
	first, _, e := simple.Parse(room[:len(right)])
	second, _, f := simple.Parse(room[:len(right)])
	if e != api.OK || f != api.OK || !bytes.Equal(room, whole) {
		t.Fatalf("%v, %v: changed: %x", e, f, room)
	}
	scribble(room, '#')
	scribbleGlyph(second)
	if !plainSame(first, sample()) {
		t.Errorf("kept or shared: %v", first)
	}
	scribble(first.Program, '#')
	if !slices.Equal(first.Ends, sample().Ends) || !slices.Equal(first.Points, sample().Points) {
		t.Errorf("shared within one answer: %v", first)
	}
}

// Memory: no call of a glyph changes it or keeps it, and what it answers shares nothing.
func TestGlyphMemory(t *testing.T) {
	g, whole := roomy(sample()), roomy(sample())
	p, q := g.Bytes(), g.Bytes()
	l, m := g.Contours(), g.Contours()
	g.Right()
	simple.Same(g, g)
	if !plainSame(g, whole) || !slices.Equal(g.Ends[:5], whole.Ends[:5]) ||
		!slices.Equal(g.Program[:5], whole.Program[:5]) || !slices.Equal(g.Points[:7], whole.Points[:7]) {
		t.Fatalf("changed: %v", g)
	}
	want := sample().Contours()
	scribbleGlyph(g)
	scribble(q, '#')
	for _, c := range m {
		scribble(c, dot.Point{X: 35})
	}
	scribble(l[1], dot.Point{X: 35})
	want[1] = slices.Repeat([]dot.Point{{X: 35}}, len(want[1]))
	if !bytes.Equal(p, sample().Bytes()) || !slices.EqualFunc(l, want, slices.Equal) {
		t.Errorf("kept or shared: %x, %v", p, l)
	}
}

// P1: calls of nothing.
func TestNothing(t *testing.T) {
	wantForm(t, "no bytes", nil)
	wantForm(t, "no bytes", []byte{})
	var g simple.Glyph
	if !g.Right() || len(g.Contours()) != 0 || !bytes.Equal(g.Bytes(), make([]byte, 12)) || !simple.Same(g, simple.Glyph{}) {
		t.Errorf("%v, %x", g.Right(), g.Bytes())
	}
}
