package maxp_test

import (
	"bytes"
	"encoding/binary"
	"math"
	"slices"
	"testing"

	"punchcut/api"
	"punchcut/maxp"
)

// sample has another byte at each place, so that numbers that change places are seen.
func sample() maxp.Maxp {
	m := maxp.Maxp{Glyphs: 0x4142}
	for i := range m.Rest {
		m.Rest[i] = uint16(0x0102 + 0x0202*i)
	}
	return m
}

// plainBytes is the table by the words of P6.1, of no Glyphs too.
func plainBytes(m maxp.Maxp) []byte {
	p := []byte{0, 1, 0, 0, byte(m.Glyphs >> 8), byte(m.Glyphs)}
	for _, n := range m.Rest {
		p = append(p, byte(n>>8), byte(n))
	}
	return p
}

// wantForm asks for ErrForm, and for nothing beside it.
func wantForm(t *testing.T, p []byte) {
	t.Helper()
	if m, e := maxp.Parse(p); e != api.ErrForm || m != (maxp.Maxp{}) {
		t.Errorf("Parse of %x: %v, %v", p, m, e)
	}
}

// scribble writes over a list and over its spare room.
func scribble(p []byte) {
	p = p[:cap(p)]
	for i := range p {
		p[i] = '#'
	}
}

// P6.1: the table byte by byte, written out.
func TestBytesWrittenOut(t *testing.T) {
	want := "\x00\x01\x00\x00\x41\x42\x01\x02\x03\x04\x05\x06\x07\x08\x09\x0a\x0b\x0c\x0d\x0e" +
		"\x0f\x10\x11\x12\x13\x14\x15\x16\x17\x18\x19\x1a"
	if got := sample().Bytes(); string(got) != want {
		t.Fatalf("%x", got)
	}
	if maxp.Size != 32 || len(want) != maxp.Size {
		t.Fatal("Size", maxp.Size)
	}
	want = "\x00\x01\x00\x00\x00\x01" + string(make([]byte, 26))
	if got := (maxp.Maxp{Glyphs: 1}).Bytes(); string(got) != want {
		t.Fatalf("of one glyph: %x", got)
	}
}

// P6.1: there and back, at each number of Glyphs; of none there is nothing, both ways.
func TestThereAndBack(t *testing.T) {
	for glyphs := range 1 << 16 {
		for _, m := range []maxp.Maxp{{Glyphs: uint16(glyphs)}, sample().With(uint16(glyphs))} {
			got, e := maxp.Parse(plainBytes(m))
			if glyphs == 0 {
				if len(m.Bytes()) != 0 || e != api.ErrForm || got != (maxp.Maxp{}) {
					t.Fatalf("of no Glyphs: %x, %v, %v", m.Bytes(), got, e)
				}
			} else if !bytes.Equal(m.Bytes(), plainBytes(m)) || e != api.OK || got != m {
				t.Fatalf("of %d Glyphs: %x, %v, %v", glyphs, m.Bytes(), got, e)
			}
		}
	}
}

// P6.1: each number of Rest on its own, at its edges.
func TestRest(t *testing.T) {
	for i := range (maxp.Maxp{}).Rest {
		for _, n := range []uint16{0, 1, 255, 256, 32767, 32768, math.MaxUint16} {
			m := maxp.Maxp{Glyphs: 65535}
			m.Rest[i] = n
			p := m.Bytes()
			if len(p) != 32 || binary.BigEndian.Uint16(p[6+2*i:]) != n || !bytes.Equal(p, plainBytes(m)) {
				t.Errorf("%d at %d: %x", n, i, p)
			}
			if got, e := maxp.Parse(plainBytes(m)); e != api.OK || got != m {
				t.Errorf("%d at %d: %v, %v", n, i, got, e)
			}
		}
	}
}

// P6.1: each size but 32 is wrong, nothing too, although Bytes answers nothing of no Glyphs.
func TestParseSizes(t *testing.T) {
	p := append(plainBytes(sample()), make([]byte, 40)...)
	for size := range p {
		if size != 32 {
			wantForm(t, p[:size:size])
			wantForm(t, p[:size])
		}
	}
	wantForm(t, nil)
	wantForm(t, []byte{})
	wantForm(t, make([]byte, 32))
	wantForm(t, bytes.Repeat([]byte{0xff}, 32))
	wantForm(t, []byte{0, 0, 0x50, 0, 0, 1})
}

// P6.1: of each bit that is turned: in the fixed number it is an error, elsewhere another Maxp.
func TestParseTurnedBits(t *testing.T) {
	m := sample()
	for at := range 32 {
		for bit := range 8 {
			p := plainBytes(m)
			p[at] ^= 1 << bit
			if at < 4 {
				wantForm(t, p)
				continue
			}
			got, e := maxp.Parse(p)
			if e != api.OK || got == m || !bytes.Equal(plainBytes(got), p) {
				t.Errorf("byte %d, bit %d: %v, %v", at, bit, got, e)
			}
		}
	}
}

// P6.1: With tells another number of glyphs and the same Rest, of none and by none too.
func TestWith(t *testing.T) {
	numbers := []uint16{0, 1, 2, 300, 65534, 65535}
	for _, was := range numbers {
		for _, glyphs := range numbers {
			m := sample()
			m.Glyphs = was
			got := m.With(glyphs)
			if got.Glyphs != glyphs || got.Rest != sample().Rest {
				t.Errorf("%d with %d: %v", was, glyphs, got)
			}
			if m.Glyphs != was || m.Rest != sample().Rest {
				t.Errorf("%d with %d changed it: %v", was, glyphs, m)
			}
			got.Rest[0]++
			if m.Rest != sample().Rest {
				t.Errorf("%d with %d shares: %v", was, glyphs, m)
			}
		}
	}
}

// Rule 'Memory': Parse leaves what it is handed, and Bytes answers new memory.
func TestMemory(t *testing.T) {
	m := sample()
	room := append(plainBytes(m), "spare"...)
	kept := slices.Clone(room)
	got, e := maxp.Parse(room[:32])
	if e != api.OK || got != m || !bytes.Equal(room, kept) {
		t.Fatalf("%v, %v, %x", got, e, room)
	}
	scribble(room)
	if got != m {
		t.Fatalf("kept: %v", got)
	}
	first, second := m.Bytes(), m.Bytes()
	scribble(first)
	if !bytes.Equal(second, plainBytes(m)) || m != sample() {
		t.Fatalf("shared: %x, %v", second, m)
	}
}
