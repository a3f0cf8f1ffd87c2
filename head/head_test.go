package head_test

import (
	"bytes"
	"encoding/binary"
	"math"
	"math/big"
	"slices"
	"testing"

	"punchcut/api"
	"punchcut/head"
)

// sample has another byte at each place, so that numbers that change places are seen.
func sample() head.Head {
	return head.Head{
		Revision: 0x01020304,
		Adjust:   0x05060708,
		Flags:    0x090a,
		Units:    0x0b0c,
		Created:  0x1112131415161718,
		Modified: 0x191a1b1c1d1e1f20,
		Box:      [4]int16{0x2122, 0x2324, 0x2526, 0x2728},
		Style:    0x292a,
		Lowest:   0x2b2c,
		Hint:     0x2d2e,
		Long:     true,
	}
}

// heads are ordinary ones, and ones whose numbers are at their edges.
func heads() []head.Head {
	highest := head.Head{
		Revision: math.MaxUint32, Adjust: math.MaxUint32, Flags: math.MaxUint16, Units: 16384,
		Created: math.MaxUint64, Modified: math.MaxUint64,
		Box:   [4]int16{math.MaxInt16, math.MaxInt16, math.MaxInt16, math.MaxInt16},
		Style: math.MaxUint16, Lowest: math.MaxUint16, Hint: math.MaxInt16, Long: true,
	}
	lowest := head.Head{
		Units: 16,
		Box:   [4]int16{math.MinInt16, math.MinInt16, math.MinInt16, math.MinInt16},
		Hint:  math.MinInt16,
	}
	signs := head.Head{Units: 1000, Box: [4]int16{-1, 1, -2, -300}, Hint: -2}
	return []head.Head{sample(), highest, lowest, signs, {Units: 2048}, {Units: 1000, Long: true}}
}

// plainBytes is the table by the words of P5.1, whatever the Units are.
func plainBytes(h head.Head) []byte {
	format := uint16(0)
	if h.Long {
		format = 1
	}
	var p []byte
	for _, n := range []any{
		uint32(0x00010000), h.Revision, h.Adjust, uint32(0x5f0f3cf5), h.Flags, h.Units, h.Created, h.Modified,
		h.Box, h.Style, h.Lowest, h.Hint, format, uint16(0),
	} {
		var err error
		if p, err = binary.Append(p, binary.BigEndian, n); err != nil {
			panic(err)
		}
	}
	return p
}

// wantForm asks for ErrForm, and for nothing beside it.
func wantForm(t *testing.T, p []byte) {
	t.Helper()
	if h, e := head.Parse(p); e != api.ErrForm || h != (head.Head{}) {
		t.Errorf("Parse of %x: %v, %v", p, h, e)
	}
}

// scribble writes over a list and over its spare room.
func scribble(p []byte) {
	p = p[:cap(p)]
	for i := range p {
		p[i] = '#'
	}
}

// P5.1: the table byte by byte, written out.
func TestBytesWrittenOut(t *testing.T) {
	want := "\x00\x01\x00\x00\x01\x02\x03\x04\x05\x06\x07\x08\x5f\x0f\x3c\xf5\x09\x0a\x0b\x0c" +
		"\x11\x12\x13\x14\x15\x16\x17\x18\x19\x1a\x1b\x1c\x1d\x1e\x1f\x20" +
		"\x21\x22\x23\x24\x25\x26\x27\x28\x29\x2a\x2b\x2c\x2d\x2e\x00\x01\x00\x00"
	if got := sample().Bytes(); string(got) != want {
		t.Fatalf("%x", got)
	}
	if head.Size != 54 || len(want) != head.Size {
		t.Fatal("Size", head.Size)
	}
	below := head.Head{Units: 16, Box: [4]int16{-1, -2, -256, math.MinInt16}, Hint: -3}
	want = "\xff\xff\xff\xfe\xff\x00\x80\x00\x00\x00\x00\x00\xff\xfd\x00\x00\x00\x00"
	if got := below.Bytes(); len(got) != 54 || string(got[36:]) != want {
		t.Fatalf("signs: %x", got)
	}
}

// P5.1: what is written is parsed, and the other way round.
func TestThereAndBack(t *testing.T) {
	for _, h := range heads() {
		p := h.Bytes()
		if !bytes.Equal(p, plainBytes(h)) {
			t.Errorf("Bytes of %v: %x", h, p)
		}
		if got, e := head.Parse(plainBytes(h)); e != api.OK || got != h {
			t.Errorf("Parse of %v: %v, %v", h, got, e)
		}
	}
}

// P5.1: Right at every number of Units; only of what is Right there are bytes, both ways.
func TestUnits(t *testing.T) {
	for units := range 1 << 16 {
		h := sample()
		h.Units = uint16(units)
		right := 16 <= units && units <= 16384
		if h.Right() != right || (head.Head{Units: uint16(units)}).Right() != right {
			t.Fatalf("Right of %d Units: %v", units, h.Right())
		}
		got, e := head.Parse(plainBytes(h))
		if right {
			if !bytes.Equal(h.Bytes(), plainBytes(h)) || e != api.OK || got != h {
				t.Fatalf("%d Units: %x, %v, %v", units, h.Bytes(), got, e)
			}
		} else if len(h.Bytes()) != 0 || e != api.ErrForm || got != (head.Head{}) {
			t.Fatalf("%d Units: %x, %v, %v", units, h.Bytes(), got, e)
		}
	}
}

// P5.1: each size but 54 is wrong, nothing too, although Bytes answers nothing of what isn't Right.
func TestParseSizes(t *testing.T) {
	p := append(plainBytes(sample()), make([]byte, 60)...)
	for size := range p {
		if size != 54 {
			wantForm(t, p[:size:size])
			wantForm(t, p[:size])
		}
	}
	wantForm(t, nil)
	wantForm(t, []byte{})
	wantForm(t, make([]byte, 54))
	wantForm(t, bytes.Repeat([]byte{0xff}, 54))
}

// P5.1: of each bit that is turned: in a fixed number it is an error, elsewhere another Head.
func TestParseTurnedBits(t *testing.T) {
	fixed := func(at int) bool { return at < 4 || 12 <= at && at < 16 || at == 50 || at >= 52 }
	h := sample()
	h.Units = 0x1555 // with any one of its bits but the two highest turned it stays Right
	for at := range 54 {
		for bit := range 8 {
			p := plainBytes(h)
			p[at] ^= 1 << bit
			if fixed(at) || at == 51 && bit > 0 || at == 18 && bit >= 6 {
				wantForm(t, p)
				continue
			}
			got, e := head.Parse(p)
			if e != api.OK || got == h || !bytes.Equal(plainBytes(got), p) {
				t.Errorf("byte %d, bit %d: %v, %v", at, bit, got, e)
			}
		}
	}
}

// P5.1: Long is 0 or 1, and no other number of two bytes.
func TestParseLong(t *testing.T) {
	for n := range 1 << 16 {
		p := plainBytes(sample())
		binary.BigEndian.PutUint16(p[50:], uint16(n))
		got, e := head.Parse(p)
		if n > 1 {
			if e != api.ErrForm || got != (head.Head{}) {
				t.Fatalf("Long %d: %v, %v", n, got, e)
			}
		} else if e != api.OK || got.Long != (n == 1) {
			t.Fatalf("Long %d: %v, %v", n, got, e)
		}
	}
}

// Rule 'Memory': Parse leaves what it is handed, and Bytes answers new memory.
func TestMemory(t *testing.T) {
	h := sample()
	room := append(plainBytes(h), "spare"...)
	kept := slices.Clone(room)
	got, e := head.Parse(room[:54])
	if e != api.OK || got != h || !bytes.Equal(room, kept) {
		t.Fatalf("%v, %v, %x", got, e, room)
	}
	scribble(room)
	if got != h {
		t.Fatalf("kept: %v", got)
	}
	first, second := h.Bytes(), h.Bytes()
	scribble(first)
	if !bytes.Equal(second, plainBytes(h)) || h != sample() {
		t.Fatalf("shared: %x, %v", second, h)
	}
}

// Rule 'Values': a copy's Box is its own.
func TestCopiesAreApart(t *testing.T) {
	h := sample()
	other := h
	other.Box[0] = -9
	if h != sample() || bytes.Equal(h.Bytes(), other.Bytes()) {
		t.Fatal(h, other)
	}
}

// plainThousandths works P5.2's words out in numbers of any size: big's Div rounds down where the divisor is
// above 0.
func plainThousandths(n int, units uint16) int {
	sum := new(big.Int).Mul(big.NewInt(int64(n)), big.NewInt(1000))
	sum.Add(sum, big.NewInt(int64(units)/2))
	return int(sum.Div(sum, big.NewInt(int64(units))).Int64())
}

// P5.2: written out: halves go up, below 0 too, and of an odd number of Units there is none.
func TestThousandths(t *testing.T) {
	for _, c := range []struct {
		units   uint16
		n, want int
	}{
		{2048, 1024, 500}, {2048, 0, 0}, {2048, 1, 0}, {2048, 2, 1}, {2048, 2048, 1000}, {2048, -2048, -1000},
		{2048, -1, 0}, {2048, -2, -1}, {2048, -1024, -500},
		{1000, 1, 1}, {1000, -1, -1}, {1000, 777, 777}, {1000, -777, -777},
		{2000, 1, 1}, {2000, -1, 0}, {2000, 3, 2}, {2000, -3, -1}, {2000, 5, 3}, {2000, -5, -2},
		{16, 1, 63}, {16, -1, -62}, {16, 3, 188}, {16, -3, -187},
		{16384, 8, 0}, {16384, 9, 1}, {16384, -8, 0}, {16384, -9, -1}, {16384, 1024, 63}, {16384, -1024, -62},
		{17, 1, 59}, {17, -1, -59}, {2001, 1, 0}, {2001, -1, 0}, {1999, 1, 1}, {1999, -1, -1},
		{2048, 1 << 40, 1000 << 29}, {2048, -1 << 40, -1000 << 29}, {16, 1 << 40, 1000 << 36},
	} {
		if got := (head.Head{Units: c.units}).Thousandths(c.n); got != c.want {
			t.Errorf("%d of %d Units: %d, not %d", c.n, c.units, got, c.want)
		}
	}
}

// P5.2: at each number of Units that is Right, up to the greatest that is promised.
func TestThousandthsAtAllUnits(t *testing.T) {
	numbers := []int{0, 1, 2, 3, 7, 8, 9, 500, 1024, 32767, 32768, 65535, 1<<31 + 1, 1<<40 - 1, 1 << 40}
	for units := uint16(16); units <= 16384; units++ {
		h := head.Head{Units: units}
		for _, n := range numbers {
			if got, want := h.Thousandths(n), plainThousandths(n, units); got != want {
				t.Fatalf("%d of %d Units: %d, not %d", n, units, got, want)
			}
			if got, want := h.Thousandths(-n), plainThousandths(-n, units); got != want {
				t.Fatalf("%d of %d Units: %d, not %d", -n, units, got, want)
			}
		}
	}
}

// P5.2: only the Units count.
func TestThousandthsOfUnitsAlone(t *testing.T) {
	for _, h := range heads() {
		for n := -3000; n < 3000; n++ {
			if got, want := h.Thousandths(n), plainThousandths(n, h.Units); got != want {
				t.Fatalf("%d of %v: %d, not %d", n, h, got, want)
			}
		}
	}
}

// P5.2: of a Head that isn't Right 0, with no Units too.
func TestThousandthsOfNotRight(t *testing.T) {
	for _, units := range []uint16{0, 1, 15, 16385, 32768, 65535} {
		for _, n := range []int{0, 1, -1, 1000, -1000, 1 << 40, -1 << 40, math.MaxInt, math.MinInt} {
			h := sample()
			h.Units = units
			if got := h.Thousandths(n); got != 0 {
				t.Errorf("%d of %d Units: %d", n, units, got)
			}
		}
	}
}

// P1: numbers beyond what is promised end without panic.
func TestThousandthsFarOut(t *testing.T) {
	for _, units := range []uint16{16, 17, 1000, 16384} {
		for _, n := range []int{math.MaxInt, math.MinInt, math.MaxInt / 1000, math.MinInt / 1000} {
			head.Head{Units: units}.Thousandths(n)
		}
	}
}
