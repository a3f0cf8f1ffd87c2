package compo_test

import (
	"bytes"
	"slices"
	"testing"

	"punchcut/api"
	"punchcut/compo"
	"punchcut/dot"
)

// unit is the matrix that a part without numbers has.
func unit() dot.Matrix { return dot.Matrix{XX: 16384, YY: 16384} }

// plainRight tells by the words of P13.1 whether a glyph may be.
func plainRight(g compo.Glyph) bool {
	if len(g.Parts) < 1 || len(g.Parts) > 200 || len(g.Program) > 65535 {
		return false
	}
	code := false
	for i, p := range g.Parts {
		if p.Flags&0x2 == 0 || p.Flags&0xe830 != 0 {
			return false
		}
		numbers := 0
		for _, flag := range []uint16{0x8, 0x40, 0x80} {
			if p.Flags&flag != 0 {
				numbers++
			}
		}
		if numbers > 1 || numbers == 0 && p.M != unit() {
			return false
		}
		if p.Flags&0x48 != 0 && (p.M.XY != 0 || p.M.YX != 0) || p.Flags&0x8 != 0 && p.M.XX != p.M.YY {
			return false
		}
		if p.Flags&1 == 0 && (p.X < -128 || p.X > 127 || p.Y < -128 || p.Y > 127) {
			return false
		}
		code = p.Flags&0x100 != 0
		if code && i != len(g.Parts)-1 {
			return false
		}
	}
	return code || len(g.Program) == 0
}

// plainWords is numbers of two bytes.
func plainWords(l ...int) []byte {
	var p []byte
	for _, n := range l {
		p = append(p, byte(n>>8), byte(n))
	}
	return p
}

// plainPart lays a part by the words of P13.2, be it right or not.
func plainPart(p compo.Part, another bool) []byte {
	flags := int(p.Flags)
	if another {
		flags += 0x20
	}
	q := plainWords(flags, int(p.Glyph))
	if p.Flags&1 != 0 {
		q = append(q, plainWords(int(p.X), int(p.Y))...)
	} else {
		q = append(q, byte(p.X), byte(p.Y))
	}
	if p.Flags&0x8 != 0 {
		q = append(q, plainWords(int(p.M.XX))...)
	}
	if p.Flags&0x40 != 0 {
		q = append(q, plainWords(int(p.M.XX), int(p.M.YY))...)
	}
	if p.Flags&0x80 != 0 {
		q = append(q, plainWords(int(p.M.XX), int(p.M.XY), int(p.M.YX), int(p.M.YY))...)
	}
	return q
}

// plainBytes lays a glyph by the words of P13.2, be it Right or not.
func plainBytes(g compo.Glyph) []byte {
	p := []byte{0xff, 0xff}
	for _, n := range g.Box {
		p = append(p, plainWords(int(n))...)
	}
	for i, part := range g.Parts {
		p = append(p, plainPart(part, i < len(g.Parts)-1)...)
	}
	if n := len(g.Parts); n > 0 && g.Parts[n-1].Flags&0x100 != 0 {
		p = append(append(p, plainWords(len(g.Program))...), g.Program...)
	}
	return p
}

// plainParse reads a glyph by the words of P13.2.
func plainParse(p []byte) (g compo.Glyph, size int, ok bool) {
	if len(p) < 10 || p[0] != 0xff || p[1] != 0xff {
		return compo.Glyph{}, 0, false
	}
	// The bytes that p hasn't are read as noughts, and held against how many it has at the end.
	q := append(bytes.Clone(p), make([]byte, 100)...)
	size = 2
	word := func() int16 {
		size += 2
		if size > len(q) {
			return 0
		}
		return int16(int(q[size-2])*256 + int(q[size-1]))
	}
	for i := range g.Box {
		g.Box[i] = word()
	}
	for another := true; another && size <= len(p); {
		part := compo.Part{Flags: uint16(word()), Glyph: uint16(word()), M: unit()}
		another = part.Flags&0x20 != 0
		part.Flags &= 0xffdf
		if part.Flags&1 != 0 {
			part.X, part.Y = word(), word()
		} else {
			part.X, part.Y = int16(int8(q[size])), int16(int8(q[size+1]))
			size += 2
		}
		if part.Flags&0x8 != 0 {
			n := word()
			part.M = dot.Matrix{XX: n, YY: n}
		}
		if part.Flags&0x40 != 0 {
			part.M = dot.Matrix{XX: word(), YY: word()}
		}
		if part.Flags&0x80 != 0 {
			part.M = dot.Matrix{XX: word(), XY: word(), YX: word(), YY: word()}
		}
		g.Parts = append(g.Parts, part)
	}
	if g.Parts[len(g.Parts)-1].Flags&0x100 != 0 && size <= len(p) {
		n := int(uint16(word()))
		if size+n > len(p) {
			return compo.Glyph{}, 0, false
		}
		g.Program = bytes.Clone(p[size : size+n])
		size += n
	}
	if size > len(p) || !plainRight(g) {
		return compo.Glyph{}, 0, false
	}
	return g, size, true
}

// plainSame holds glyphs against each other field by field.
func plainSame(a, b compo.Glyph) bool {
	for i := range a.Box {
		if a.Box[i] != b.Box[i] {
			return false
		}
	}
	return slices.Equal(a.Parts, b.Parts) && string(a.Program) == string(b.Program)
}

// empty tells whether nothing is in a glyph.
func empty(g compo.Glyph) bool {
	return g.Box == [4]int16{} && len(g.Parts) == 0 && len(g.Program) == 0
}

// wantForm asks for ErrForm, and for nothing beside it.
func wantForm(t *testing.T, what string, p []byte) {
	t.Helper()
	g, n, e := compo.Parse(p)
	if e != api.ErrForm || n != 0 || !empty(g) {
		t.Errorf("%s: %.60x: %v, %d, %d parts", what, p, e, n, len(g.Parts))
	}
}

// wantPlain asks Parse for what the words say of p, and tells whether that is a glyph.
func wantPlain(t *testing.T, what string, p []byte) bool {
	t.Helper()
	want, size, ok := plainParse(p)
	if !ok {
		wantForm(t, what, p)
		return false
	}
	g, n, e := compo.Parse(p)
	if e != api.OK || n != size || !plainSame(g, want) || !g.Right() {
		t.Errorf("%s: %.60x: %v, %d, not %d: %v", what, p, e, n, size, g)
	}
	if !bytes.Equal(g.Bytes(), p[:min(n, len(p))]) {
		t.Errorf("%s: %.60x: back: %.60x", what, p, g.Bytes())
	}
	return true
}

// wantBytes asks for a glyph's bytes, and that Parse tells it of these, whatever stands behind them.
func wantBytes(t *testing.T, what string, g compo.Glyph) {
	t.Helper()
	p, want := g.Bytes(), plainBytes(g)
	if !g.Right() || !bytes.Equal(p, want) {
		t.Errorf("%s: right: %v, %.60x, not %.60x", what, g.Right(), p, want)
		return
	}
	for _, behind := range []string{"", "\x00", "\xff\xff\xff", "behind"} {
		h, n, e := compo.Parse(append(bytes.Clone(p), behind...))
		if e != api.OK || n != len(p) || !plainSame(g, h) || !compo.Same(g, h) {
			t.Errorf("%s: back: %v, %d of %d", what, e, n, len(p))
		}
	}
}

// wantWrong asks that a glyph has no bytes.
func wantWrong(t *testing.T, what string, g compo.Glyph) {
	t.Helper()
	if g.Right() || len(g.Bytes()) != 0 {
		t.Errorf("%s: right: %v, %d bytes", what, g.Right(), len(g.Bytes()))
	}
}

// wantRight asks that a glyph has bytes just if it is right.
func wantRight(t *testing.T, what string, g compo.Glyph, right bool) {
	t.Helper()
	if right {
		wantBytes(t, what, g)
	} else {
		wantWrong(t, what, g)
	}
}

// part is one that may be.
func part(flags uint16, glyph int) compo.Part {
	return compo.Part{Flags: flags | compo.Places, Glyph: uint16(glyph), M: unit()}
}

// of is a glyph made of parts.
func of(l ...compo.Part) compo.Glyph { return compo.Glyph{Parts: l} }

// sample has all that a glyph may have.
func sample() compo.Glyph {
	return compo.Glyph{
		Box: [4]int16{-32768, -2, 3, 32767},
		Parts: []compo.Part{
			{Flags: 0x2, Glyph: 5, X: -128, Y: 127, M: unit()},
			{Flags: 0x100b, Glyph: 6, X: 300, Y: -301, M: dot.Matrix{XX: -5, YY: -5}},
			{Flags: 0x246, Glyph: 5, X: 1, Y: 2, M: dot.Matrix{XX: 7, YY: -8}},
			{Flags: 0x583, Glyph: 0xffff, X: 1, Y: -1, M: dot.Matrix{XX: 1, XY: 2, YX: 3, YY: 4}},
		},
		Program: []byte("abc"),
	}
}

// P13.2: the flags' numbers.
func TestFlagNumbers(t *testing.T) {
	got := []int{compo.Words, compo.Places, compo.Scale, compo.Each, compo.Four, compo.Code}
	if !slices.Equal(got, []int{1, 2, 8, 64, 128, 256}) {
		t.Errorf("%v", got)
	}
}

// P13.2: the chapter's example, and others whose bytes are written out.
func TestWrittenOut(t *testing.T) {
	box := "\xff\xff\x00\x00\x00\x00\x00\x00\x00\x00"
	for _, c := range []struct {
		g compo.Glyph
		p string
	}{
		{of(compo.Part{Flags: 3, Glyph: 3, X: 1, Y: 2, M: unit()}), box + "\x00\x03\x00\x03\x00\x01\x00\x02"},
		{of(compo.Part{Flags: 2, Glyph: 0x102, X: -1, Y: 127, M: unit()}), box + "\x00\x02\x01\x02\xff\x7f"},
		{of(part(0, 1), part(0, 2)), box + "\x00\x22\x00\x01\x00\x00" + "\x00\x02\x00\x02\x00\x00"},
		{of(part(compo.Code, 1)), box + "\x01\x02\x00\x01\x00\x00\x00\x00"},
		{sample(), "\xff\xff\x80\x00\xff\xfe\x00\x03\x7f\xff" + "\x00\x22\x00\x05\x80\x7f" +
			"\x10\x2b\x00\x06\x01\x2c\xfe\xd3\xff\xfb" + "\x02\x66\x00\x05\x01\x02\x00\x07\xff\xf8" +
			"\x05\x83\xff\xff\x00\x01\xff\xff\x00\x01\x00\x02\x00\x03\x00\x04" + "\x00\x03abc"},
	} {
		if string(c.g.Bytes()) != c.p {
			t.Errorf("%x, not %x", c.g.Bytes(), c.p)
		}
		g, n, e := compo.Parse([]byte(c.p))
		if e != api.OK || n != len(c.p) || !plainSame(g, c.g) {
			t.Errorf("%v, %d, %v, not %v", e, n, g, c.g)
		}
		wantBytes(t, "written out", c.g)
	}
}

// P13.1, P13.2: all flags, in the last part and in one ahead of it.
func TestAllFlags(t *testing.T) {
	right := 0
	for flags := range 1 << 16 {
		p := compo.Part{Flags: uint16(flags), Glyph: 3, X: 1, Y: -1, M: unit()}
		for _, g := range []compo.Glyph{of(p), of(p, part(0, 4)), of(part(0, 4), p)} {
			may := plainRight(g)
			if g.Right() != may || may != bytes.Equal(g.Bytes(), plainBytes(g)) {
				t.Errorf("%x: %v", flags, g.Right())
			}
			if may {
				right++
			}
			// 20 says in bytes that another part stands behind it.
			q := plainBytes(g)
			q = append(q, 0, 2, 0, 5, 6, 7, 0, 0, 0, 0, 0, 0)
			wantPlain(t, "all flags", q)
		}
	}
	// Words or not, none or one of three, and four that mean nothing; Code in two of the three.
	if right != 2*4*16*(2+1+2) {
		t.Errorf("%d are right", right)
	}
}

// P13.1: a flag that none may have is not read either, though its place is among bytes.
func TestNeverFlags(t *testing.T) {
	for _, flag := range []uint16{0x10, 0x800, 0x2000, 0x4000, 0x8000} {
		for i := range sample().Parts {
			g := sample()
			g.Parts[i].Flags |= flag
			wantWrong(t, "a flag that none may have", g)
			wantForm(t, "a flag that none may have", plainBytes(g))
		}
	}
	for i := range sample().Parts {
		g := sample()
		g.Parts[i].Flags |= 0x20
		wantWrong(t, "20 in Flags", g)
		g = sample()
		g.Parts[i].Flags &^= compo.Places
		wantWrong(t, "numbers of points", g)
		wantForm(t, "numbers of points", plainBytes(g))
	}
}

// P13.1: Code in the last part alone, and a Program beside it alone.
func TestCode(t *testing.T) {
	for n := 1; n <= 4; n++ {
		for set := range 1 << n {
			g := compo.Glyph{Parts: make([]compo.Part, n)}
			for i := range g.Parts {
				g.Parts[i] = part(0, i)
				if set>>i&1 != 0 {
					g.Parts[i].Flags |= compo.Code
				}
			}
			last := 1 << (n - 1)
			wantRight(t, "Code", g, set == 0 || set == last)
			if set != 0 && set != last {
				wantForm(t, "Code ahead of the last", append(plainBytes(g), 0, 0, 0, 0))
			}
			for _, size := range []int{1, 2, 65535} {
				g.Program = bytes.Repeat([]byte("p"), size)
				wantRight(t, "a Program", g, set == last)
			}
			for _, size := range []int{65536, 65537, 1 << 17} {
				g.Program = make([]byte, size)
				wantWrong(t, "a Program that is too long", g)
			}
		}
	}
}

// P13.1: 1 to MaxParts Parts.
func TestParts(t *testing.T) {
	wantWrong(t, "no parts", compo.Glyph{})
	wantWrong(t, "no parts", compo.Glyph{Parts: []compo.Part{}, Program: []byte{1}})
	for _, n := range []int{1, 2, 3, 198, 199, 200, 201, 202, 255, 256, 400, 65537} {
		g := compo.Glyph{Parts: make([]compo.Part, n)}
		for i := range g.Parts {
			g.Parts[i] = part(uint16(i%2), i)
		}
		wantRight(t, "parts", g, n <= 200)
		p := plainBytes(g)
		if n > 200 {
			wantForm(t, "too many parts", p)
		}
		// One behind the last is one more.
		last := len(p) - 6 - 2*(1-n%2)
		p[last+1] |= 0x20
		p = append(p, plainPart(part(0, 7), false)...)
		if wantPlain(t, "one part more", p) != (n+1 <= 200) {
			t.Errorf("%d: one part more", n)
		}
	}
}

// P13.1, P13.2: the longest glyph that may be is read whole.
func TestLongest(t *testing.T) {
	g := compo.Glyph{Parts: make([]compo.Part, 200), Program: bytes.Repeat([]byte("prog."), 13107)}
	for i := range g.Parts {
		m := dot.Matrix{XX: int16(i), XY: int16(-i), YX: int16(2 * i), YY: 32767}
		g.Parts[i] = compo.Part{Flags: compo.Words | compo.Places | compo.Four, Glyph: uint16(300 * i), X: 32767, Y: -32768, M: m}
	}
	g.Parts[199].Flags |= compo.Code
	wantBytes(t, "the longest", g)
	p := g.Bytes()
	wantForm(t, "the longest, cut short", p[:len(p)-1])
	long := append(bytes.Clone(p), make([]byte, 1<<20)...)
	if h, n, e := compo.Parse(long); e != api.OK || n != len(p) || !plainSame(g, h) {
		t.Errorf("%v, %d of %d", e, n, len(p))
	}
}

// P13.1: places with Words and without.
func TestPlaces(t *testing.T) {
	edges := []int16{-32768, -32767, -257, -256, -255, -130, -129, -128, -127, -1, 0, 1, 126, 127, 128, 129, 255, 256, 32767}
	for _, x := range edges {
		for _, y := range edges {
			p := part(0, 1)
			p.X, p.Y = x, y
			wantRight(t, "of a byte", of(p), x >= -128 && x <= 127 && y >= -128 && y <= 127)
			p.Flags |= compo.Words
			wantBytes(t, "of a word", of(p))
		}
	}
}

// P13.1, P13.2: which matrices may be, by how many numbers there are for them.
func TestMatrices(t *testing.T) {
	numbers := []int16{-32768, -1, 0, 1, 16383, 16384, 32767}
	for _, xx := range numbers {
		for _, xy := range numbers {
			for _, yx := range numbers {
				for _, yy := range numbers {
					m := dot.Matrix{XX: xx, XY: xy, YX: yx, YY: yy}
					straight := xy == 0 && yx == 0
					for flag, may := range map[uint16]bool{
						0: m == unit(), compo.Scale: straight && xx == yy, compo.Each: straight, compo.Four: true,
					} {
						p := part(flag, 9)
						p.M = m
						wantRight(t, "a matrix", of(p), may)
						wantRight(t, "a matrix, ahead", of(p, part(0, 1)), may)
					}
				}
			}
		}
	}
}

// P13.1: of Scale, Each and Four at most one.
func TestOneOfThree(t *testing.T) {
	for _, flags := range []uint16{compo.Scale | compo.Each, compo.Scale | compo.Four, compo.Each | compo.Four,
		compo.Scale | compo.Each | compo.Four} {
		g := of(part(flags, 1))
		wantWrong(t, "two of three", g)
		wantForm(t, "two of three", append(plainBytes(g), make([]byte, 20)...))
	}
}

// P13.2: the first two bytes are ffff, and no other number below 0 either.
func TestFront(t *testing.T) {
	p := sample().Bytes()
	for first := range 1 << 16 {
		p[0], p[1] = byte(first>>8), byte(first)
		_, _, e := compo.Parse(p)
		if (e == api.OK) != (first == 0xffff) || e != api.OK && e != api.ErrForm {
			t.Errorf("%x: %v", first, e)
		}
		if compo.Is(p) != (first >= 0x8000) || compo.Is(p[:2]) != (first >= 0x8000) || compo.Is(p[:1]) {
			t.Errorf("%x: Is: %v", first, compo.Is(p))
		}
	}
}

// P13.2: glyphs that are cut short at any place, with spare room and without.
func TestCut(t *testing.T) {
	all := []compo.Glyph{sample(), of(part(0, 1)), of(part(1, 1)), of(part(compo.Code, 7))}
	for _, flag := range []uint16{compo.Scale, compo.Each, compo.Four, compo.Scale | 1, compo.Four | 1 | compo.Code} {
		all = append(all, of(part(flag, 3)), of(part(flag&^compo.Code, 3), part(flag, 3)))
	}
	for _, g := range all {
		p := g.Bytes()
		for i := range p {
			wantForm(t, "cut short", p[:i])
			wantForm(t, "cut short, without spare room", p[:i:i])
		}
		wantBytes(t, "whole", g)
	}
}

// P13.2: each byte of glyphs, turned to each other one.
func TestTurnedBytes(t *testing.T) {
	right, wrong := 0, 0
	for _, g := range []compo.Glyph{sample(), of(part(0, 1)), of(part(1, 1), part(0, 2)), of(part(compo.Each, 2))} {
		for _, behind := range []string{"", "\x01\x02", "\x00\x02\x00\x05\x06\x07\x00\x00\x00\x00\x00\x00\x00"} {
			p := append(g.Bytes(), behind...)
			for i := range p {
				for b := range 256 {
					q := bytes.Clone(p)
					q[i] = byte(b)
					if wantPlain(t, "a turned byte", q) {
						right++
					} else {
						wrong++
					}
				}
			}
		}
	}
	if right < 5000 || wrong < 5000 {
		t.Errorf("%d are right, %d wrong", right, wrong)
	}
}

// mixer answers numbers below one that is given, always the same row of them.
func mixer() func(n int) int {
	state := uint32(1)
	return func(n int) int {
		state = state*1664525 + 1013904223
		return int(state>>8) % n
	}
}

// mixedPart is a part that is most often right.
func mixedPart(next func(int) int) compo.Part {
	flags := []uint16{0, compo.Scale, compo.Each, compo.Four}[next(4)] | compo.Places | uint16(next(2))
	flags |= uint16(next(1<<16)) & 0x1604
	if next(30) == 0 {
		flags ^= 1 << next(16)
	}
	number := func() int16 { return int16(next(65536)) }
	p := compo.Part{Flags: flags, Glyph: uint16(number()), M: unit()}
	p.X, p.Y = int16(next(256)-128), int16(next(256)-128)
	if flags&1 != 0 || next(30) == 0 {
		p.X, p.Y = number(), number()
	}
	switch {
	case next(30) == 0 || flags&compo.Four != 0:
		p.M = dot.Matrix{XX: number(), XY: number(), YX: number(), YY: number()}
	case flags&compo.Each != 0:
		p.M = dot.Matrix{XX: number(), YY: number()}
	case flags&compo.Scale != 0:
		p.M = dot.Scale(number())
	}
	return p
}

// P13.1, P13.2: glyphs and bytes at random.
func TestMixed(t *testing.T) {
	next := mixer()
	right, read := 0, 0
	for range 20000 {
		var g compo.Glyph
		for range next(6) {
			g.Parts = append(g.Parts, mixedPart(next))
		}
		for i := range g.Box {
			g.Box[i] = int16(next(65536))
		}
		if n := len(g.Parts); n > 0 && next(2) == 0 {
			g.Parts[n-1].Flags |= compo.Code
			g.Program = make([]byte, next(5))
		}
		wantRight(t, "mixed", g, plainRight(g))
		if !plainRight(g) {
			continue
		}
		right++
		p := append(g.Bytes(), byte(next(256)), byte(next(256)))
		for range 1 + next(3) {
			p[next(len(p))] = byte(next(256))
		}
		if wantPlain(t, "mixed bytes", p) {
			read++
		}
	}
	if right < 5000 || right > 18000 || read < 1000 || read > right-1000 {
		t.Errorf("%d are right, %d read", right, read)
	}
}

// P13.2: Is asks for a whole number below 0, and for nothing behind it.
func TestIs(t *testing.T) {
	for p, want := range map[string]bool{
		"": false, "\xff": false, "\x80": false, "\x00": false, "\xff\xff": true, "\x80\x00": true, "\x7f\xff": false,
		"\x00\x00": false, "\x00\xff": false, "\xff\x00": true, "\xff\xfe\x00": true, "\x00\x80\xff": false,
	} {
		if compo.Is([]byte(p)) != want {
			t.Errorf("%x: %v", p, compo.Is([]byte(p)))
		}
	}
	if compo.Is(nil) || compo.Is([]byte{0xff, 0xff}[:1]) || compo.Is([]byte{0xff, 0xff}[:0]) {
		t.Error("spare room is read")
	}
}

// P13.3: the glyphs that stand for the parts' own.
func TestWith(t *testing.T) {
	ids := map[uint16]uint16{5: 6, 6: 5, 0xffff: 0, 7: 8}
	g, ok := sample().With(ids)
	want := sample()
	for i, id := range []uint16{6, 5, 6, 0} {
		want.Parts[i].Glyph = id
	}
	if !ok || !plainSame(g, want) {
		t.Errorf("%v: %v", ok, g)
	}
	for _, missing := range []uint16{5, 6, 0xffff} {
		fewer := map[uint16]uint16{5: 6, 6: 5, 0xffff: 0, 7: 8}
		delete(fewer, missing)
		if g, ok := sample().With(fewer); ok || !empty(g) {
			t.Errorf("without %d: %v", missing, g)
		}
	}
	if g, ok := sample().With(nil); ok || !empty(g) {
		t.Errorf("of none: %v", g)
	}
	if len(ids) != 4 || ids[5] != 6 || ids[6] != 5 || ids[0xffff] != 0 || ids[7] != 8 {
		t.Errorf("changed: %v", ids)
	}
}

// P13.3: a glyph that isn't Right has others With ids, too.
func TestWithWrong(t *testing.T) {
	for _, ids := range []map[uint16]uint16{nil, {1: 2}} {
		for _, g := range []compo.Glyph{{}, {Box: [4]int16{1, 2, 3, 4}, Program: []byte{1}}} {
			if h, ok := g.With(ids); !ok || !plainSame(g, h) {
				t.Errorf("of no parts: %v, %v", ok, h)
			}
		}
	}
	g := compo.Glyph{Parts: make([]compo.Part, 300)}
	h, ok := g.With(map[uint16]uint16{0: 9})
	if !ok || len(h.Parts) != 300 || h.Parts[299] != (compo.Part{Glyph: 9}) {
		t.Errorf("%v: %d", ok, len(h.Parts))
	}
}

// P13.3: glyphs are alike just if all is.
func TestSame(t *testing.T) {
	list := []compo.Glyph{{}, sample(), of(compo.Part{}), of(compo.Part{}, compo.Part{}), {Program: []byte{0}}, {Program: []byte{1}},
		{Program: []byte{0, 0}}}
	for i := range 4 {
		g, h := sample(), compo.Glyph{}
		g.Box[i]++
		h.Box[i] = 1
		list = append(list, g, h)
	}
	for i := range sample().Parts {
		for _, change := range []func(*compo.Part){
			func(p *compo.Part) { p.Flags ^= 0x1000 },
			func(p *compo.Part) { p.Flags ^= 1 },
			func(p *compo.Part) { p.Glyph++ },
			func(p *compo.Part) { p.X++ },
			func(p *compo.Part) { p.Y++ },
			func(p *compo.Part) { p.M.XX++ },
			func(p *compo.Part) { p.M.XY++ },
			func(p *compo.Part) { p.M.YX++ },
			func(p *compo.Part) { p.M.YY++ },
		} {
			g := sample()
			change(&g.Parts[i])
			list = append(list, g)
		}
	}
	for _, change := range []func(*compo.Glyph){
		func(g *compo.Glyph) { g.Program[2]++ },
		func(g *compo.Glyph) { g.Program = g.Program[:2] },
		func(g *compo.Glyph) { g.Parts = g.Parts[:3] },
		func(g *compo.Glyph) { g.Parts[0], g.Parts[1] = g.Parts[1], g.Parts[0] },
	} {
		g := sample()
		change(&g)
		list = append(list, g)
	}
	for i, a := range list {
		for j, b := range list {
			if compo.Same(a, b) != (i == j) {
				t.Errorf("%d, %d: %v", i, j, compo.Same(a, b))
			}
		}
	}
	if !compo.Same(compo.Glyph{}, compo.Glyph{Parts: []compo.Part{}, Program: []byte{}}) || !compo.Same(sample(), sample()) {
		t.Error("alike ones aren't")
	}
}

// scribble writes over a list, spare room too.
func scribble[T any](l []T, with T) {
	l = l[:cap(l)]
	for i := range l {
		l[i] = with
	}
}

// scribbleGlyph writes over all of a glyph's lists.
func scribbleGlyph(g compo.Glyph) {
	scribble(g.Parts, compo.Part{Flags: 0x2323})
	scribble(g.Program, '#')
}

// Memory: Parse changes and keeps nothing, and its answers share nothing.
func TestParseMemory(t *testing.T) {
	right := sample().Bytes()
	room := append(bytes.Clone(right), "spare"...)
	whole := bytes.Clone(room)
	first, _, e := compo.Parse(room[:len(right)])
	second, _, f := compo.Parse(room[:len(right)])
	compo.Is(room[:2])
	if e != api.OK || f != api.OK || !bytes.Equal(room, whole) {
		t.Fatalf("%v, %v: changed: %x", e, f, room)
	}
	scribble(room, '#')
	scribbleGlyph(second)
	if !plainSame(first, sample()) {
		t.Errorf("kept or shared: %v", first)
	}
}

// Memory: no call of a glyph changes it or keeps it, and what it answers shares nothing.
func TestGlyphMemory(t *testing.T) {
	roomy := func() compo.Glyph {
		g := sample()
		g.Parts = append(g.Parts, compo.Part{X: 9})[:4]
		g.Program = append(g.Program, 9)[:3]
		return g
	}
	g, whole := roomy(), roomy()
	ids := map[uint16]uint16{5: 5, 6: 6, 0xffff: 0xffff}
	p, q := g.Bytes(), g.Bytes()
	first, _ := g.With(ids)
	second, _ := g.With(ids)
	g.Right()
	compo.Same(g, g)
	if !plainSame(g, whole) || !slices.Equal(g.Parts[:5], whole.Parts[:5]) || !slices.Equal(g.Program[:4], whole.Program[:4]) {
		t.Fatalf("changed: %v", g)
	}
	scribbleGlyph(g)
	scribbleGlyph(second)
	scribble(q, '#')
	clear(ids)
	if !bytes.Equal(p, sample().Bytes()) || !plainSame(first, sample()) {
		t.Errorf("kept or shared: %x, %v", p, first)
	}
}

// P1: calls of nothing.
func TestNothing(t *testing.T) {
	wantForm(t, "no bytes", nil)
	wantForm(t, "no bytes", []byte{})
	wantForm(t, "a Box alone", append([]byte{0xff, 0xff}, make([]byte, 8)...))
	var g compo.Glyph
	if g.Right() || len(g.Bytes()) != 0 || !compo.Same(g, compo.Glyph{}) {
		t.Errorf("%v, %x", g.Right(), g.Bytes())
	}
}
