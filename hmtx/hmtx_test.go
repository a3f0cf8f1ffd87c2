package hmtx_test

import (
	"bytes"
	"encoding/binary"
	"math"
	"slices"
	"testing"

	"punchcut/api"
	"punchcut/hmtx"
)

// sample has another byte at each place where that may be, so that numbers that change places are seen.
func sample() hmtx.Hhea {
	h := hmtx.Hhea{Long: 0x4142}
	for i := 1; i < 15; i++ {
		h.Front[i] = uint16(0x0304 + 0x0202*i)
	}
	return h
}

// plainHhea is the table hhea by the words of P7.1, of numbers that can't be too.
func plainHhea(h hmtx.Hhea) []byte {
	p := []byte{0, 1}
	for _, n := range h.Front {
		p = binary.BigEndian.AppendUint16(p, n)
	}
	return binary.BigEndian.AppendUint16(p, h.Long)
}

// plainHmtx is the table hmtx by the words of P7.2, with so many told whole.
func plainHmtx(l []hmtx.Metric, long int) []byte {
	var p []byte
	for _, m := range l[:long] {
		p = binary.BigEndian.AppendUint16(p, m.Advance)
		p = binary.BigEndian.AppendUint16(p, uint16(m.Left))
	}
	for _, m := range l[long:] {
		p = binary.BigEndian.AppendUint16(p, uint16(m.Left))
	}
	return p
}

// plainLong tries the numbers from 1 on, as the words of P7.2 go.
func plainLong(l []hmtx.Metric) int {
	for n := 1; n <= len(l); n++ {
		first := l[n-1].Advance
		if !slices.ContainsFunc(l[n-1:], func(m hmtx.Metric) bool { return m.Advance != first }) {
			return n
		}
	}
	return 0
}

// many are n metrics, each of another Advance than the one ahead.
func many(n int) []hmtx.Metric {
	l := make([]hmtx.Metric, n)
	for i := range l {
		l[i] = hmtx.Metric{Advance: uint16(i), Left: int16(7 * i)}
	}
	return l
}

// small are all lists of up to six metrics of three Advances, each with a Left of its own.
func small() [][]hmtx.Metric {
	all := [][]hmtx.Metric{nil}
	for at := 0; at < len(all); at++ {
		if len(all[at]) == 6 {
			break
		}
		for _, advance := range []uint16{0, 500, math.MaxUint16} {
			left := int16(100*len(all[at]) - 250)
			all = append(all, append(slices.Clone(all[at]), hmtx.Metric{Advance: advance, Left: left}))
		}
	}
	return all
}

func wantHheaForm(t *testing.T, p []byte) {
	t.Helper()
	if h, e := hmtx.ParseHhea(p); e != api.ErrForm || h != (hmtx.Hhea{}) {
		t.Errorf("ParseHhea of %x: %v, %v", p, h, e)
	}
}

// wantError asks Parse for an error, and for nothing beside it.
func wantError(t *testing.T, p []byte, long, glyphs uint16, want api.Errno) {
	t.Helper()
	if l, e := hmtx.Parse(p, long, glyphs); e != want || len(l) != 0 {
		t.Errorf("Parse of %d bytes, %d of %d whole: %d metrics, %v, not %v", len(p), long, glyphs, len(l), e, want)
	}
}

// scribble writes over a list and over its spare room.
func scribble[T any](l []T, with T) {
	l = l[:cap(l)]
	for i := range l {
		l[i] = with
	}
}

// P7.1: the table byte by byte, written out.
func TestHheaWrittenOut(t *testing.T) {
	want := "\x00\x01\x00\x00\x05\x06\x07\x08\x09\x0a\x0b\x0c\x0d\x0e\x0f\x10\x11\x12" +
		"\x13\x14\x15\x16\x17\x18\x19\x1a\x1b\x1c\x1d\x1e\x1f\x20\x00\x00\x41\x42"
	if got := sample().Bytes(); string(got) != want {
		t.Fatalf("%x", got)
	}
	if hmtx.Size != 36 || len(want) != hmtx.Size {
		t.Fatal("Size", hmtx.Size)
	}
	want = "\x00\x01" + string(make([]byte, 33)) + "\x01"
	if got := (hmtx.Hhea{Long: 1}).Bytes(); string(got) != want {
		t.Fatalf("of one: %x", got)
	}
}

// P7.1: there and back, at each Long; of none there is nothing, both ways.
func TestHheaThereAndBack(t *testing.T) {
	for long := range 1 << 16 {
		full := sample()
		full.Long = uint16(long)
		for _, h := range []hmtx.Hhea{{Long: uint16(long)}, full} {
			got, e := hmtx.ParseHhea(plainHhea(h))
			if long == 0 {
				if len(h.Bytes()) != 0 || e != api.ErrForm || got != (hmtx.Hhea{}) {
					t.Fatalf("of no Long: %x, %v, %v", h.Bytes(), got, e)
				}
			} else if !bytes.Equal(h.Bytes(), plainHhea(h)) || e != api.OK || got != h {
				t.Fatalf("of Long %d: %x, %v, %v", long, h.Bytes(), got, e)
			}
		}
	}
}

// P7.1: each number of Front on its own, at its edges: the first and the last may only be 0.
func TestHheaFront(t *testing.T) {
	for i := range (hmtx.Hhea{}).Front {
		for _, n := range []uint16{0, 1, 255, 256, 32767, 32768, math.MaxUint16} {
			h := hmtx.Hhea{Long: 1}
			h.Front[i] = n
			p := h.Bytes()
			if n != 0 && (i == 0 || i == 15) {
				if len(p) != 0 {
					t.Errorf("%d at %d: %x", n, i, p)
				}
				wantHheaForm(t, plainHhea(h))
				continue
			}
			if len(p) != 36 || binary.BigEndian.Uint16(p[2+2*i:]) != n || !bytes.Equal(p, plainHhea(h)) {
				t.Errorf("%d at %d: %x", n, i, p)
			}
			if got, e := hmtx.ParseHhea(plainHhea(h)); e != api.OK || got != h {
				t.Errorf("%d at %d: %v, %v", n, i, got, e)
			}
		}
	}
}

// P7.1: each size but 36 is wrong, nothing too, although Bytes answers nothing of no Long.
func TestHheaSizes(t *testing.T) {
	p := append(plainHhea(sample()), make([]byte, 40)...)
	for size := range p {
		if size != 36 {
			wantHheaForm(t, p[:size:size])
			wantHheaForm(t, p[:size])
		}
	}
	wantHheaForm(t, nil)
	wantHheaForm(t, []byte{})
	wantHheaForm(t, make([]byte, 36))
	wantHheaForm(t, bytes.Repeat([]byte{0xff}, 36))
}

// P7.1: of each bit that is turned: where only one number may stand it is an error, elsewhere another Hhea.
func TestHheaTurnedBits(t *testing.T) {
	fixed := func(at int) bool { return at < 4 || at == 32 || at == 33 }
	h := sample()
	for at := range 36 {
		for bit := range 8 {
			p := plainHhea(h)
			p[at] ^= 1 << bit
			if fixed(at) {
				wantHheaForm(t, p)
				continue
			}
			got, e := hmtx.ParseHhea(p)
			if e != api.OK || got == h || !bytes.Equal(plainHhea(got), p) {
				t.Errorf("byte %d, bit %d: %v, %v", at, bit, got, e)
			}
		}
	}
}

// Rules 'Memory' and 'Values': of hhea.
func TestHheaMemory(t *testing.T) {
	h := sample()
	room := append(plainHhea(h), "spare"...)
	kept := slices.Clone(room)
	got, e := hmtx.ParseHhea(room[:36])
	if e != api.OK || got != h || !bytes.Equal(room, kept) {
		t.Fatalf("%v, %v, %x", got, e, room)
	}
	scribble(room, '#')
	if got != h {
		t.Fatalf("kept: %v", got)
	}
	first, second := h.Bytes(), h.Bytes()
	scribble(first, '#')
	if !bytes.Equal(second, plainHhea(h)) || h != sample() {
		t.Fatalf("shared: %x, %v", second, h)
	}
	other := h
	other.Front[1]++
	if h != sample() {
		t.Fatal("a copy's Front is shared")
	}
}

// P7.2: tables written out, with signs, and of each number that may be told whole.
func TestParseWrittenOut(t *testing.T) {
	for _, c := range []struct {
		p            string
		long, glyphs uint16
		want         []hmtx.Metric
	}{
		{"\x00\x05\x00\x01\x00\x02", 1, 2, []hmtx.Metric{{5, 1}, {5, 2}}},
		{"\x00\x05\x00\x01\x00\x06\x00\x02", 2, 2, []hmtx.Metric{{5, 1}, {6, 2}}},
		{"\x00\x05\x00\x01\x00\x05\x00\x02", 2, 2, []hmtx.Metric{{5, 1}, {5, 2}}},
		{"\x01\x02\x03\x04", 1, 1, []hmtx.Metric{{0x0102, 0x0304}}},
		{"\xff\xff\xff\xff", 1, 1, []hmtx.Metric{{65535, -1}}},
		{"\x00\x00\x80\x00", 1, 1, []hmtx.Metric{{0, -32768}}},
		{"\x80\x00\x7f\xff", 1, 1, []hmtx.Metric{{32768, 32767}}},
		{"\x00\x01\x00\x00\x00\x09\xff\xfe\xff\xfd\x00\x04", 2, 4, []hmtx.Metric{{1, 0}, {9, -2}, {9, -3}, {9, 4}}},
	} {
		if got, e := hmtx.Parse([]byte(c.p), c.long, c.glyphs); e != api.OK || !slices.Equal(got, c.want) {
			t.Errorf("%x, %d of %d whole: %v, %v", c.p, c.long, c.glyphs, got, e)
		}
	}
}

// P7.2: Build, written out.
func TestBuildWrittenOut(t *testing.T) {
	for _, c := range []struct {
		l    []hmtx.Metric
		p    string
		long uint16
	}{
		{[]hmtx.Metric{{5, 1}, {5, 2}}, "\x00\x05\x00\x01\x00\x02", 1},
		{[]hmtx.Metric{{5, 1}, {6, 1}}, "\x00\x05\x00\x01\x00\x06\x00\x01", 2},
		{[]hmtx.Metric{{0, 0}}, "\x00\x00\x00\x00", 1},
		{[]hmtx.Metric{{65535, -1}}, "\xff\xff\xff\xff", 1},
		{[]hmtx.Metric{{1, -32768}, {2, 32767}, {1, 0}}, "\x00\x01\x80\x00\x00\x02\x7f\xff\x00\x01\x00\x00", 3},
		{[]hmtx.Metric{{7, 1}, {7, 1}, {8, 1}, {8, 2}}, "\x00\x07\x00\x01\x00\x07\x00\x01\x00\x08\x00\x01\x00\x02", 3},
		{nil, "", 0},
		{[]hmtx.Metric{}, "", 0},
	} {
		if p, long := hmtx.Build(c.l); string(p) != c.p || long != c.long {
			t.Errorf("%v: %x, %d", c.l, p, long)
		}
	}
}

// P7.2: each small list, there and back, with each number that may be told whole; Long is the least of these.
func TestSmallLists(t *testing.T) {
	for _, l := range small() {
		least := plainLong(l)
		if got := hmtx.Long(l); int(got) != least {
			t.Errorf("Long of %v: %d, not %d", l, got, least)
		}
		p, long := hmtx.Build(l)
		if int(long) != least || !bytes.Equal(p, plainHmtx(l, least)) {
			t.Errorf("Build of %v: %x, %d", l, p, long)
		}
		for n := 1; n <= len(l); n++ {
			want := slices.Clone(l)
			for i := n; i < len(l); i++ {
				want[i].Advance = l[n-1].Advance
			}
			got, e := hmtx.Parse(plainHmtx(l, n), uint16(n), uint16(len(l)))
			if e != api.OK || !slices.Equal(got, want) || slices.Equal(got, l) != (n >= least) {
				t.Errorf("Parse of %v, %d whole: %v, %v", l, n, got, e)
			}
		}
	}
}

// P7.2: Left has no say in how many are told whole.
func TestLongByAdvanceAlone(t *testing.T) {
	if n := hmtx.Long([]hmtx.Metric{{5, 1}, {5, 2}, {5, -3}}); n != 1 {
		t.Error("one Advance, three Lefts:", n)
	}
	if n := hmtx.Long([]hmtx.Metric{{5, 1}, {6, 1}, {7, 1}}); n != 3 {
		t.Error("three Advances, one Left:", n)
	}
}

// P7.2: ErrArg, whatever the bytes are: also where these are as many as the numbers ask for.
func TestParseArguments(t *testing.T) {
	for _, c := range [][2]uint16{
		{0, 0}, {0, 1}, {0, 2}, {0, 65535}, {1, 0}, {2, 1}, {5, 4}, {65535, 0}, {65535, 65534}, {65535, 32768},
	} {
		fitting := 2*int(c[0]) + 2*int(c[1])
		for _, size := range []int{0, 1, 4, fitting, fitting + 1} {
			wantError(t, make([]byte, size), c[0], c[1], api.ErrArg)
		}
	}
	wantError(t, nil, 0, 0, api.ErrArg)
}

// P7.2: ErrForm, of each other number of bytes.
func TestParseSizes(t *testing.T) {
	for _, c := range [][2]uint16{{1, 1}, {1, 2}, {2, 2}, {1, 4}, {2, 4}, {3, 4}, {4, 4}} {
		right := 2*int(c[0]) + 2*int(c[1])
		for size := range 40 {
			p := make([]byte, size, 64)
			if size != right {
				wantError(t, p, c[0], c[1], api.ErrForm)
			} else if l, e := hmtx.Parse(p, c[0], c[1]); e != api.OK || len(l) != int(c[1]) {
				t.Errorf("%d of %d whole: %v, %v", c[0], c[1], l, e)
			}
		}
	}
	wantError(t, nil, 1, 1, api.ErrForm)
	// These would be right if the numbers were counted in two bytes.
	wantError(t, nil, 32768, 32768, api.ErrForm)
	wantError(t, make([]byte, 4), 32769, 32769, api.ErrForm)
	wantError(t, make([]byte, 131068), 65535, 65535, api.ErrForm)
}

// P7.2: as many glyphs as may be, and more.
func TestManyGlyphs(t *testing.T) {
	l := many(65535)
	p, long := hmtx.Build(l)
	if long != 65535 || !bytes.Equal(p, plainHmtx(l, 65535)) {
		t.Fatal("Build of 65535:", len(p), long)
	}
	if got, e := hmtx.Parse(p, 65535, 65535); e != api.OK || !slices.Equal(got, l) {
		t.Fatal("Parse of 65535:", len(got), e)
	}
	alike := make([]hmtx.Metric, 65535)
	p, long = hmtx.Build(alike)
	if long != 1 || len(p) != 131072 {
		t.Fatal("Build of 65535 alike:", len(p), long)
	}
	if got, e := hmtx.Parse(p, 1, 65535); e != api.OK || !slices.Equal(got, alike) {
		t.Fatal("Parse of 65535 alike:", len(got), e)
	}
	for _, n := range []int{65536, 65537, 131072, 200000} {
		for _, l := range [][]hmtx.Metric{many(n), make([]hmtx.Metric, n)} {
			if p, long := hmtx.Build(l); len(p) != 0 || long != 0 {
				t.Errorf("Build of %d: %d bytes, %d", n, len(p), long)
			}
		}
	}
}

// P7.2: Long is asked of any number of metrics; 0 is what it tells of a number that two bytes can't hold.
func TestLongOfMany(t *testing.T) {
	for _, n := range []int{65535, 65536, 65537, 70000, 131073} {
		if got := hmtx.Long(make([]hmtx.Metric, n)); got != 1 {
			t.Errorf("of %d alike: %d", n, got)
		}
		l := append(many(300), make([]hmtx.Metric, n)...)
		if got := hmtx.Long(l); got != 301 {
			t.Errorf("of %d alike behind 300: %d", n, got)
		}
		want := uint16(0)
		if n == 65535 {
			want = 65535
		}
		if got := hmtx.Long(many(n)); got != want {
			t.Errorf("of %d: %d", n, got)
		}
	}
}

// Rules 'Memory' and 'Values': of hmtx.
func TestMemory(t *testing.T) {
	l := []hmtx.Metric{{500, 1}, {600, -1}, {600, 3}}
	room := append(plainHmtx(l, 2), "spare"...)
	kept := slices.Clone(room)
	first, e := hmtx.Parse(room[:10], 2, 3)
	if e != api.OK || !slices.Equal(first, l) || !bytes.Equal(room, kept) {
		t.Fatalf("%v, %v, %x", first, e, room)
	}
	second, _ := hmtx.Parse(room[:10], 2, 3)
	scribble(room, '#')
	scribble(second, hmtx.Metric{Advance: 9, Left: 9})
	if !slices.Equal(first, l) {
		t.Fatalf("kept or shared: %v", first)
	}

	spare := append(slices.Clone(l), hmtx.Metric{Advance: 8, Left: 8})
	given := slices.Clone(spare)
	p, _ := hmtx.Build(spare[:3])
	q, _ := hmtx.Build(spare[:3])
	hmtx.Long(spare[:3])
	if !slices.Equal(spare, given) {
		t.Fatalf("changed: %v", spare)
	}
	scribble(spare, hmtx.Metric{})
	scribble(q, '#')
	if !bytes.Equal(p, plainHmtx(l, 2)) {
		t.Fatalf("kept or shared: %x", p)
	}
}
