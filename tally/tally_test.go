package tally_test

import (
	"math"
	"testing"

	"punchcut/tally"
)

// some is bytes that differ, of which each length is another text.
func some(size int) []byte {
	p := make([]byte, size)
	for i := range p {
		p[i] = byte(i*i*31 + i*7 + 0xc5)
	}
	return p
}

// plainSum adds byte by byte, each at its height in its word.
func plainSum(p []byte) uint32 {
	var sum uint64
	for i, b := range p {
		sum += uint64(b) << (24 - 8*(i%4))
	}
	return uint32(sum)
}

// scribble writes over a list and over its spare room.
func scribble(p []byte) {
	p = p[:cap(p)]
	for i := range p {
		p[i] = '#'
	}
}

// P2.1: the highest byte first, noughts behind, modulo 2^32.
func TestSum(t *testing.T) {
	for _, c := range []struct {
		p    []byte
		want uint32
	}{
		{nil, 0},
		{[]byte{}, 0},
		{[]byte{1}, 0x01000000},
		{[]byte{1, 2}, 0x01020000},
		{[]byte{1, 2, 3}, 0x01020300},
		{[]byte{1, 2, 3, 4}, 0x01020304},
		{[]byte{0, 0, 0, 1, 2}, 0x02000001},
		{[]byte{0xff, 0xff, 0xff, 0xff, 0, 0, 0, 1}, 0},
		{[]byte{0xff, 0xff, 0xff, 0xff, 0, 0, 0, 2}, 1},
		{[]byte{0x80, 0, 0, 0, 0x80, 0, 0, 0, 0, 0, 0, 5}, 5},
	} {
		if got := tally.Sum(c.p); got != c.want {
			t.Errorf("Sum of %x: %08x, not %08x", c.p, got, c.want)
		}
	}
	for size := range 300 {
		if p := some(size); tally.Sum(p) != plainSum(p) {
			t.Errorf("Sum of %d bytes: %08x, not %08x", size, tally.Sum(p), plainSum(p))
		}
	}
}

// P2.1: noughts up to a multiple of four, and no further.
func TestPad(t *testing.T) {
	for size := range 40 {
		p := some(size)
		want := string(p)
		for len(want)%4 != 0 {
			want += "\x00"
		}
		if got := tally.Pad(p); string(got) != want {
			t.Errorf("Pad of %d bytes: %x", size, got)
		}
	}
	if len(tally.Pad(nil)) != 0 {
		t.Error("Pad of nil")
	}
}

// P2.1: spare room is no part of what is summed or padded.
func TestSpareRoomIsNotRead(t *testing.T) {
	room := []byte("abcdefgh")
	if got := tally.Pad(room[:5]); string(got) != "abcde\x00\x00\x00" {
		t.Fatalf("Pad: %q", got)
	}
	if tally.Sum(room[:5]) != tally.Sum([]byte("abcde")) {
		t.Fatal("Sum")
	}
	if got := tally.Zeroed(room[:5], 4, 4); string(got) != "abcd\x00" {
		t.Fatalf("Zeroed: %q", got)
	}
}

// P2.1: Whole less the sum, modulo 2^32.
func TestAdjust(t *testing.T) {
	if tally.Whole != 0xb1b0afba {
		t.Fatal("Whole")
	}
	for _, c := range []struct {
		p    []byte
		want uint32
	}{
		{nil, 0xb1b0afba},
		{[]byte{0, 0, 0, 1}, 0xb1b0afb9},
		{[]byte{0xb1, 0xb0, 0xaf, 0xba}, 0},
		{[]byte{0xb1, 0xb0, 0xaf, 0xbb}, 0xffffffff},
		{[]byte{0xff, 0xff, 0xff, 0xff}, 0xb1b0afbb},
		{[]byte{1}, 0xb0b0afba},
	} {
		if got := tally.Adjust(c.p); got != c.want {
			t.Errorf("Adjust of %x: %08x, not %08x", c.p, got, c.want)
		}
	}
	for size := range 300 {
		if p := some(size); tally.Adjust(p)+plainSum(p) != tally.Whole {
			t.Errorf("Adjust of %d bytes", size)
		}
	}
}

// P2.1: Zeroed against what its words say, place by place.
func TestZeroed(t *testing.T) {
	const text = "abcdefg"
	for size := range len(text) + 1 {
		p := []byte(text)[:size]
		for at := -10; at <= 10; at++ {
			for n := -10; n <= 20; n++ {
				want := []byte(text)[:size]
				for i := range want {
					if i >= at && i < at+n {
						want[i] = 0
					}
				}
				if got := tally.Zeroed(p, at, n); string(got) != string(want) {
					t.Errorf("Zeroed(%q, %d, %d): %q, not %q", p, at, n, got, want)
				}
			}
		}
	}
}

// P2.1: places and numbers whose sum doesn't fit in an int.
func TestZeroedFarOut(t *testing.T) {
	for _, c := range []struct {
		at, n int
		want  string
	}{
		{0, math.MaxInt, "\x00\x00\x00\x00"},
		{2, math.MaxInt, "ab\x00\x00"},
		{4, math.MaxInt, "abcd"},
		{math.MaxInt, math.MaxInt, "abcd"},
		{math.MaxInt, 1, "abcd"},
		{math.MaxInt, math.MinInt, "abcd"},
		{-1, math.MaxInt, "\x00\x00\x00\x00"},
		{-math.MaxInt, math.MaxInt, "abcd"},
		{2 - math.MaxInt, math.MaxInt, "\x00\x00cd"},
		{math.MinInt, math.MaxInt, "abcd"},
		{math.MinInt, math.MinInt, "abcd"},
		{math.MinInt, -1, "abcd"},
		{-1, math.MinInt, "abcd"},
		{0, math.MinInt, "abcd"},
		{2, math.MinInt, "abcd"},
		{3, -2, "abcd"},
	} {
		if got := tally.Zeroed([]byte("abcd"), c.at, c.n); string(got) != c.want {
			t.Errorf("Zeroed %d, %d: %q, not %q", c.at, c.n, got, c.want)
		}
		if len(tally.Zeroed(nil, c.at, c.n)) != 0 {
			t.Errorf("Zeroed of nil, %d, %d", c.at, c.n)
		}
	}
}

// P2.2: the sum of parts, each padded, is the sum of their sums.
func TestSumOfParts(t *testing.T) {
	for first := range 20 {
		for second := range 20 {
			for third := range 6 {
				var file []byte
				var sum uint32
				for _, size := range []int{first, second, third} {
					part := some(size)
					file = append(file, tally.Pad(part)...)
					sum += tally.Sum(part)
				}
				if tally.Sum(file) != sum {
					t.Fatalf("parts of %d, %d, %d bytes", first, second, third)
				}
			}
		}
	}
}

// P2.2: a file with its Adjust at four noughts comes to Whole.
func TestFileMadeWhole(t *testing.T) {
	for size := 4; size < 64; size++ {
		for at := 0; at+4 <= size; at += 4 {
			file := tally.Zeroed(some(size), at, 4)
			n := tally.Adjust(file)
			for i := range 4 {
				file[at+i] = byte(n >> (24 - 8*i))
			}
			if tally.Sum(file) != tally.Whole {
				t.Fatalf("%d bytes, at %d: %08x", size, at, tally.Sum(file))
			}
		}
	}
}

// Rule 'Memory': what is handed in, its spare room too, is neither changed nor shared with an answer.
func TestMemory(t *testing.T) {
	const text = "abcdefghijkl"
	for size := range len(text) + 1 {
		room := []byte(text)
		p := room[:size]
		tally.Sum(p)
		tally.Adjust(p)
		padded, again := tally.Pad(p), tally.Pad(p)
		zeroed, same := tally.Zeroed(p, 1, 2), tally.Zeroed(p, 0, 0)
		want := [2]string{string(again), string(same)}
		scribble(padded)
		scribble(zeroed)
		if string(room) != text {
			t.Fatalf("%d bytes: changed: %q", size, room)
		}
		scribble(room)
		if string(again) != want[0] || string(same) != want[1] {
			t.Fatalf("%d bytes: shared: %q, %q", size, again, same)
		}
	}
}
