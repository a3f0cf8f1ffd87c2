package loca_test

import (
	"bytes"
	"encoding/binary"
	"math"
	"slices"
	"testing"

	"punchcut/api"
	"punchcut/loca"
)

// plainTable is the table by the words of P8.1, whatever the places are.
func plainTable(places []int, long bool) []byte {
	var p []byte
	for _, at := range places {
		if long {
			p = binary.BigEndian.AppendUint32(p, uint32(at))
		} else {
			p = binary.BigEndian.AppendUint16(p, uint16(at/2))
		}
	}
	return p
}

// plainPlaces adds up sizes, from 0 on.
func plainPlaces(sizes []int) []int {
	places := []int{0}
	for _, size := range sizes {
		places = append(places, places[len(places)-1]+size)
	}
	return places
}

// plainLong tells whether places need four bytes each.
func plainLong(places []int) bool {
	return slices.ContainsFunc(places, func(at int) bool { return at%2 == 1 || at > 131070 })
}

// wantForm asks for ErrForm, and for nothing beside it.
func wantForm(t *testing.T, p []byte, long bool, glyphs uint16, size int) {
	t.Helper()
	if l, e := loca.Parse(p, long, glyphs, size); e != api.ErrForm || len(l) != 0 {
		t.Errorf("Parse of %d bytes, long %v, of %d glyphs in %d: %d places, %v", len(p), long, glyphs, size, len(l), e)
	}
}

func wantPlaces(t *testing.T, p []byte, long bool, size int, want []int) {
	t.Helper()
	l, e := loca.Parse(p, long, uint16(len(want)-1), size)
	if e != api.OK || !slices.Equal(l, want) {
		t.Errorf("Parse of %d bytes, long %v, in %d: %d places, %v", len(p), long, size, len(l), e)
	}
}

// wantNothing asks Build for nothing, and for false.
func wantNothing(t *testing.T, what string, sizes []int) {
	t.Helper()
	if p, long := loca.Build(sizes); len(p) != 0 || long {
		t.Errorf("Build %s: %d bytes, %v", what, len(p), long)
	}
}

// scribble writes over a list and over its spare room.
func scribble[T any](l []T, with T) {
	l = l[:cap(l)]
	for i := range l {
		l[i] = with
	}
}

// P8.1: tables written out. The first place needn't be 0, nor need the last be where the data end.
func TestParseWrittenOut(t *testing.T) {
	for _, c := range []struct {
		p    string
		long bool
		size int
		want []int
	}{
		{"\x00\x00\x00\x01\x00\x03", false, 6, []int{0, 2, 6}},
		{"\x00\x00\x00\x01\x00\x03", false, 7, []int{0, 2, 6}},
		{"\x00\x00", false, 0, []int{0}},
		{"\x00\x00\x00\x00", true, 0, []int{0}},
		{"\x00\x00\x00\x00", false, 0, []int{0, 0}},
		{"\x00\x01\x00\x01\x00\x01", false, 2, []int{2, 2, 2}},
		{"\x01\x02\xff\xff", false, 131070, []int{516, 131070}},
		{"\x00\x00\x00\x01\x00\x00\x00\x03", true, 3, []int{1, 3}},
		{"\x00\x00\x00\x00\x01\x02\x03\x04", true, 0x01020304, []int{0, 0x01020304}},
		{"\xff\xff\xff\xff", true, 1<<32 - 1, []int{1<<32 - 1}},
		{"\x7f\xff\xff\xff\x80\x00\x00\x00", true, math.MaxInt, []int{1<<31 - 1, 1 << 31}},
	} {
		wantPlaces(t, []byte(c.p), c.long, c.size, c.want)
	}
}

// P8.1: each number of bytes but the one that the glyphs ask for is wrong.
func TestParseSizes(t *testing.T) {
	for glyphs := range 6 {
		for size := range 40 {
			for _, long := range []bool{false, true} {
				each := 2
				if long {
					each = 4
				}
				p := make([]byte, size, 64)
				if size == each*(glyphs+1) {
					wantPlaces(t, p, long, 0, make([]int, glyphs+1))
				} else {
					wantForm(t, p, long, uint16(glyphs), 100)
				}
			}
		}
	}
	wantForm(t, nil, false, 0, 0)
	wantForm(t, nil, true, 0, 0)
	// These would be right if the places were counted in two bytes.
	wantForm(t, nil, false, 65535, 0)
	wantForm(t, nil, true, 65535, 0)
	wantForm(t, make([]byte, 4), false, 32769, 0)
}

// P8.1: all tables of three places up to 4, in data of each size: just those that don't fall, nor leave the
// data, are read.
func TestParseOrder(t *testing.T) {
	for n := range 5 * 5 * 5 {
		halves := []int{n / 25, n / 5 % 5, n % 5}
		for size := -2; size <= 10; size++ {
			for _, long := range []bool{false, true} {
				places := slices.Clone(halves)
				if !long {
					for i := range places {
						places[i] *= 2
					}
				}
				p := plainTable(places, long)
				if slices.IsSorted(places) && places[2] <= size {
					wantPlaces(t, p, long, size, places)
				} else {
					wantForm(t, p, long, 2, size)
				}
			}
		}
	}
}

// P8.1: data of a size below 0 hold no place, and great places aren't taken for small ones or ones below 0.
func TestParseEdges(t *testing.T) {
	for _, size := range []int{-1, -2, math.MinInt} {
		wantForm(t, make([]byte, 2), false, 0, size)
		wantForm(t, make([]byte, 4), true, 0, size)
	}
	wantForm(t, []byte{0xff, 0xff}, false, 0, 131069)
	wantForm(t, []byte{0x80, 0, 0, 0}, true, 0, 1<<31-1)
	wantForm(t, []byte{0xff, 0xff, 0xff, 0xff}, true, 0, 1<<32-2)
	wantForm(t, []byte{0xff, 0xff, 0xff, 0xff, 0, 0, 0, 0}, true, 1, math.MaxInt)
	wantForm(t, []byte{0, 0, 0, 2, 0, 0, 0, 1, 0, 0, 0, 3}, true, 2, 3)
	wantForm(t, []byte{0, 0, 0, 0, 0, 0, 0, 2, 0, 0, 0, 1}, true, 2, 3)
}

// P8.1: as many glyphs as may be.
func TestParseMany(t *testing.T) {
	sizes := make([]int, 65535)
	for i := range sizes {
		sizes[i] = i % 3
	}
	places := plainPlaces(sizes)
	wantPlaces(t, plainTable(places, true), true, places[65535], places)
	wantForm(t, plainTable(places, true), true, 65535, places[65535]-1)
	wantForm(t, plainTable(places, true), true, 65534, places[65535])
	for i := range places {
		places[i] = 2 * i
	}
	wantPlaces(t, plainTable(places, false), false, 131070, places)
	wantForm(t, plainTable(places, false), false, 65535, 131069)
}

// P8.1: each glyph's bytes, and nothing where there is none.
func TestCut(t *testing.T) {
	data, places := []byte("abcdefgh"), []int{0, 2, 2, 6, 8}
	for i, want := range []string{"ab", "", "cdef", "gh", "", ""} {
		if got := loca.Cut(data, places, i); string(got) != want {
			t.Errorf("glyph %d: %q", i, got)
		}
	}
	for _, i := range []int{-1, -2, 4, 5, 100, math.MaxInt, math.MaxInt - 1, math.MinInt} {
		if got := loca.Cut(data, places, i); len(got) != 0 {
			t.Errorf("glyph %d: %q", i, got)
		}
		if got := loca.Cut(data, nil, i); len(got) != 0 {
			t.Errorf("glyph %d of no places: %q", i, got)
		}
		if got := loca.Cut(nil, nil, i); len(got) != 0 {
			t.Errorf("glyph %d of nothing: %q", i, got)
		}
	}
	if got := loca.Cut(data, []int{3}, 0); len(got) != 0 {
		t.Errorf("of one place: %q", got)
	}
}

// P8.1: at all pairs of places, in and out of the data, also where there is spare room behind these.
func TestCutPlaces(t *testing.T) {
	data := []byte("abcdefgh")
	far := []int{math.MinInt, math.MinInt + 1, -2, -1, 0, 1, 2, 3, 4, 5, 6, 7, math.MaxInt - 1, math.MaxInt}
	for _, from := range far {
		for _, to := range far {
			want := ""
			if 0 <= from && from < to && to <= 5 {
				want = string(data[from:to])
			}
			if got := loca.Cut(data[:5], []int{from, to}, 0); string(got) != want {
				t.Errorf("%d to %d: %q", from, to, got)
			}
			if got := loca.Cut(nil, []int{from, to}, 0); len(got) != 0 {
				t.Errorf("%d to %d of no data: %q", from, to, got)
			}
		}
	}
}

// P8.1: only the glyph's own two places count: those of others may be wrong.
func TestCutOwnPlacesAlone(t *testing.T) {
	places := []int{99, -5, 1, 3, 0, math.MaxInt}
	for i, want := range []string{"", "", "bc", "", ""} {
		if got := loca.Cut([]byte("abcd"), places, i); string(got) != want {
			t.Errorf("glyph %d: %q", i, got)
		}
	}
}

// P8.2: tables written out; of no glyphs there is one place.
func TestBuildWrittenOut(t *testing.T) {
	for _, c := range []struct {
		sizes []int
		p     string
		long  bool
	}{
		{[]int{2, 4}, "\x00\x00\x00\x01\x00\x03", false},
		{nil, "\x00\x00", false},
		{[]int{}, "\x00\x00", false},
		{[]int{0}, "\x00\x00\x00\x00", false},
		{[]int{1}, "\x00\x00\x00\x00\x00\x00\x00\x01", true},
		{[]int{1, 1}, "\x00\x00\x00\x00\x00\x00\x00\x01\x00\x00\x00\x02", true},
		{[]int{2, 3}, "\x00\x00\x00\x00\x00\x00\x00\x02\x00\x00\x00\x05", true},
		{[]int{131070}, "\x00\x00\xff\xff", false},
		{[]int{131070, 0}, "\x00\x00\xff\xff\xff\xff", false},
		{[]int{131069}, "\x00\x00\x00\x00\x00\x01\xff\xfd", true},
		{[]int{131071}, "\x00\x00\x00\x00\x00\x01\xff\xff", true},
		{[]int{131072}, "\x00\x00\x00\x00\x00\x02\x00\x00", true},
		{[]int{131070, 2}, "\x00\x00\x00\x00\x00\x01\xff\xfe\x00\x02\x00\x00", true},
		{[]int{1 << 26}, "\x00\x00\x00\x00\x04\x00\x00\x00", true},
	} {
		if p, long := loca.Build(c.sizes); string(p) != c.p || long != c.long {
			t.Errorf("%v: %x, %v", c.sizes, p, long)
		}
	}
}

// P8.2: each short list of small sizes and ones at the edges, and back by Parse.
func TestBuildThereAndBack(t *testing.T) {
	each := []int{0, 1, 2, 5, 65534, 65536, 131068}
	lists := [][]int{{}}
	for at := 0; at < len(lists) && len(lists[at]) < 4; at++ {
		for _, size := range each {
			lists = append(lists, append(slices.Clone(lists[at]), size))
		}
	}
	for _, sizes := range lists {
		places := plainPlaces(sizes)
		p, long := loca.Build(sizes)
		if long != plainLong(places) || !bytes.Equal(p, plainTable(places, long)) {
			t.Fatalf("%v: %x, %v", sizes, p, long)
		}
		wantPlaces(t, p, long, places[len(sizes)], places)
	}
}

// P8.2: a size below 0 makes all of it nothing, wherever it stands.
func TestBuildBelowNought(t *testing.T) {
	for _, below := range []int{-1, -2, -4, math.MinInt} {
		wantNothing(t, "below 0", []int{below})
		wantNothing(t, "below 0 first", []int{below, 8, 8})
		wantNothing(t, "below 0 within", []int{8, below, 8})
		wantNothing(t, "below 0 last", []int{8, 8, below})
	}
}

// P8.2: more than 2^26 bytes in all are nothing, also where the sum leaves what an int holds.
func TestBuildTooGreat(t *testing.T) {
	wantNothing(t, "of one byte too many", []int{1<<26 + 1})
	wantNothing(t, "of one byte too many, at last", []int{1 << 26, 0, 1})
	wantNothing(t, "of halves", []int{1 << 25, 1<<25 + 1})
	wantNothing(t, "of the greatest", []int{math.MaxInt})
	wantNothing(t, "of the greatest twice", []int{math.MaxInt, math.MaxInt, 2})
	wantNothing(t, "of a sum that comes round to 6", []int{4, math.MaxInt, math.MaxInt, 4})
	wantNothing(t, "of one that comes round to 0", []int{1 << 62, 1 << 62, 1 << 62, 1 << 62})
	sizes := []int{1 << 25, 0, 1<<25 - 2, 2, 0}
	if p, long := loca.Build(sizes); !long || !bytes.Equal(p, plainTable(plainPlaces(sizes), true)) {
		t.Errorf("of just as many: %x, %v", p, long)
	}
}

// P8.2: as many sizes as may be, and more.
func TestBuildMany(t *testing.T) {
	for _, size := range []int{0, 1, 2, 3, 4, 1024} {
		sizes := slices.Repeat([]int{size}, 65535)
		places := plainPlaces(sizes)
		p, long := loca.Build(sizes)
		if long != plainLong(places) || !bytes.Equal(p, plainTable(places, long)) {
			t.Errorf("of 65535 times %d: %d bytes, %v", size, len(p), long)
		}
		wantPlaces(t, p, long, places[65535], places)
	}
	for _, n := range []int{65536, 65537, 131072, 200000} {
		for _, size := range []int{0, 1, 2} {
			wantNothing(t, "of too many", slices.Repeat([]int{size}, n))
		}
	}
}

// Rule 'Memory': what is handed in stays as it is and isn't kept, and answers share nothing.
func TestMemory(t *testing.T) {
	room := []byte("\x00\x00\x00\x01\x00\x03spare")
	kept := slices.Clone(room)
	first, _ := loca.Parse(room[:6], false, 2, 6)
	second, _ := loca.Parse(room[:6], false, 2, 6)
	if !bytes.Equal(room, kept) {
		t.Fatalf("Parse changed: %x", room)
	}
	scribble(room, '#')
	scribble(second, 7)
	if !slices.Equal(first, []int{0, 2, 6}) {
		t.Fatalf("Parse kept or shared: %v", first)
	}

	sizes := []int{2, 4, 6}
	p, _ := loca.Build(sizes[:2])
	q, _ := loca.Build(sizes[:2])
	if !slices.Equal(sizes, []int{2, 4, 6}) {
		t.Fatalf("Build changed: %v", sizes)
	}
	scribble(sizes, 7)
	scribble(q, '#')
	if string(p) != "\x00\x00\x00\x01\x00\x03" {
		t.Fatalf("Build kept or shared: %x", p)
	}
}

// Rule 'Memory': a glyph's bytes are none of the data's, nor is their spare room.
func TestCutMemory(t *testing.T) {
	data, places := []byte("abcdefgh"), []int{0, 2, 6, 8}
	first := loca.Cut(data[:6], places[:3], 1)
	second := loca.Cut(data[:6], places[:3], 1)
	empty := loca.Cut(data, []int{3, 3}, 0)
	scribble(second, '#')
	scribble(empty, '#')
	if string(data) != "abcdefgh" || !slices.Equal(places, []int{0, 2, 6, 8}) {
		t.Fatalf("changed: %q, %v", data, places)
	}
	scribble(data, '#')
	scribble(places, 9)
	if string(first) != "cdef" {
		t.Fatalf("kept or shared: %q", first)
	}
}
