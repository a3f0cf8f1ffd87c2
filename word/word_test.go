package word_test

import (
	"bytes"
	"math"
	"testing"

	"punchcut/word"
)

// state is all that a Reader tells without going on.
type state struct {
	at, left int
	bad      bool
}

func stateOf(r *word.Reader) state { return state{r.At(), r.Left(), r.Bad()} }

func wantState(t *testing.T, r *word.Reader, want state) {
	t.Helper()
	if got := stateOf(r); got != want {
		t.Fatalf("state: got %+v, want %+v", got, want)
	}
}

// calls are a Reader's ways to go on by so many bytes; each tells whether it told 0, or nothing.
func calls() map[string]struct {
	size int
	call func(r *word.Reader) bool
} {
	return map[string]struct {
		size int
		call func(r *word.Reader) bool
	}{
		"U8":   {1, func(r *word.Reader) bool { return r.U8() == 0 }},
		"U16":  {2, func(r *word.Reader) bool { return r.U16() == 0 }},
		"I16":  {2, func(r *word.Reader) bool { return r.I16() == 0 }},
		"U32":  {4, func(r *word.Reader) bool { return r.U32() == 0 }},
		"Take": {3, func(r *word.Reader) bool { return len(r.Take(3)) == 0 }},
	}
}

// P1.1: numbers are told highest byte first, in the order of the bytes.
func TestReaderTellsNumbers(t *testing.T) {
	r := word.New([]byte{0x07, 0x01, 0x2c, 0xff, 0xfe, 0x89, 0xab, 0xcd, 0xef, 'h', 'i', 0x80})
	wantState(t, r, state{0, 12, false})
	if got := r.U8(); got != 7 {
		t.Fatalf("U8: %d", got)
	}
	wantState(t, r, state{1, 11, false})
	if got := r.U16(); got != 300 {
		t.Fatalf("U16: %d", got)
	}
	wantState(t, r, state{3, 9, false})
	if got := r.I16(); got != -2 {
		t.Fatalf("I16: %d", got)
	}
	wantState(t, r, state{5, 7, false})
	if got := r.U32(); got != 0x89abcdef {
		t.Fatalf("U32: %x", got)
	}
	wantState(t, r, state{9, 3, false})
	if got := r.Take(2); string(got) != "hi" {
		t.Fatalf("Take: %q", got)
	}
	wantState(t, r, state{11, 1, false})
	if got := r.U8(); got != 0x80 {
		t.Fatalf("U8: %x", got)
	}
	wantState(t, r, state{12, 0, false})
}

// P1.1: the edges of the numbers' signs.
func TestReaderSigns(t *testing.T) {
	for _, c := range []struct {
		p        []byte
		unsigned uint16
		signed   int16
	}{
		{[]byte{0x00, 0x00}, 0, 0},
		{[]byte{0x00, 0x80}, 128, 128},
		{[]byte{0x7f, 0xff}, 32767, 32767},
		{[]byte{0x80, 0x00}, 32768, -32768},
		{[]byte{0xff, 0xff}, 65535, -1},
	} {
		if got := word.New(c.p).U16(); got != c.unsigned {
			t.Errorf("U16 of %x: %d", c.p, got)
		}
		if got := word.New(c.p).I16(); got != c.signed {
			t.Errorf("I16 of %x: %d", c.p, got)
		}
	}
	if got := word.New([]byte{0xff, 0xff, 0xff, 0xff}).U32(); got != math.MaxUint32 {
		t.Errorf("U32: %d", got)
	}
	if got := word.New([]byte{0, 0, 1, 0}).U32(); got != 256 {
		t.Errorf("U32: %d", got)
	}
}

// P1.1: with one byte too few a Reader is Bad; with just enough it isn't.
func TestReaderTooFew(t *testing.T) {
	for name, c := range calls() {
		full := bytes.Repeat([]byte{0xaa}, c.size)
		r := word.New(full)
		if c.call(r) {
			t.Errorf("%s: nothing of enough bytes", name)
		}
		wantState(t, r, state{c.size, 0, false})

		r = word.New(full[1:])
		if !c.call(r) {
			t.Errorf("%s: something of too few bytes", name)
		}
		wantState(t, r, state{0, 0, true})

		r = word.New(append([]byte{0x55}, full[1:]...))
		if r.U8() != 0x55 || !c.call(r) {
			t.Errorf("%s: something of too few bytes behind one", name)
		}
		wantState(t, r, state{1, 0, true})
	}
}

// P1.1: a Bad Reader stays Bad, also for calls that its bytes would have been enough for.
func TestReaderStaysBad(t *testing.T) {
	spoil := map[string]func(r *word.Reader) bool{
		"too many":    func(r *word.Reader) bool { return len(r.Take(9)) == 0 },
		"the most":    func(r *word.Reader) bool { return len(r.Take(math.MaxInt)) == 0 },
		"below 0":     func(r *word.Reader) bool { return len(r.Take(-1)) == 0 },
		"far below 0": func(r *word.Reader) bool { return len(r.Take(math.MinInt)) == 0 },
		"a number":    func(r *word.Reader) bool { return r.Take(6) != nil && r.U32() == 0 },
	}
	for how, f := range spoil {
		for name, c := range calls() {
			r := word.New([]byte("abcdefgh"))
			if !f(r) {
				t.Fatalf("%s: something told", how)
			}
			was := state{r.At(), 0, true}
			wantState(t, r, was)
			for range 3 {
				if !c.call(r) {
					t.Errorf("%s, then %s: something told", how, name)
				}
				wantState(t, r, was)
			}
			if len(r.Take(0)) != 0 {
				t.Errorf("%s: Take(0) told something", how)
			}
			wantState(t, r, was)
		}
	}
}

// P1.1: nothing can be taken anywhere, at the end too, without harm.
func TestReaderTakesNothing(t *testing.T) {
	r := word.New([]byte{1})
	if len(r.Take(0)) != 0 {
		t.Fatal("something at the beginning")
	}
	wantState(t, r, state{0, 1, false})
	if r.U8() != 1 || len(r.Take(0)) != 0 {
		t.Fatal("something at the end")
	}
	wantState(t, r, state{1, 0, false})
}

// P1.1, and the rule that nil and empty lists are the same.
func TestReaderOfNothing(t *testing.T) {
	for _, p := range [][]byte{nil, {}} {
		for name, c := range calls() {
			r := word.New(p)
			wantState(t, r, state{0, 0, false})
			if len(r.Take(0)) != 0 || r.Bad() || !c.call(r) {
				t.Errorf("%s of nothing", name)
			}
			wantState(t, r, state{0, 0, true})
		}
	}
}

// P1.2: of a nil Reader 0, nothing, true.
func TestNilReader(t *testing.T) {
	var r *word.Reader
	for name, c := range calls() {
		if !c.call(r) {
			t.Errorf("%s told something", name)
		}
	}
	for _, n := range []int{0, 1, -1, math.MaxInt, math.MinInt} {
		if len(r.Take(n)) != 0 {
			t.Errorf("Take(%d) told something", n)
		}
	}
	wantState(t, r, state{0, 0, true})
}

// Rule 'Memory': what is handed to New is neither changed nor kept.
func TestReaderKeepsNothing(t *testing.T) {
	room := []byte("abcdefgh--")
	p := room[:8]
	r := word.New(p)
	copy(room, "XXXXXXXXXX")
	if got := r.Take(8); string(got) != "abcdefgh" {
		t.Fatalf("written over: %q", got)
	}
	room = []byte("abcdefgh--")
	p = room[:8]
	r = word.New(p)
	r.U8()
	r.U16()
	scribble(r.Take(3))
	r.Take(9)
	if string(room) != "abcdefgh--" {
		t.Fatalf("changed: %q", room)
	}
}

// scribble writes over a list and over its spare room.
func scribble(p []byte) {
	p = p[:cap(p)]
	for i := range p {
		p[i] = '#'
	}
}

// Rule 'Memory': what Take answers, its spare room too, is nobody else's.
func TestTakeIsNew(t *testing.T) {
	r := word.New([]byte("abcdefgh"))
	first := r.Take(2)
	none := r.Take(0)
	scribble(first)
	scribble(none)
	second := r.Take(2)
	scribble(first)
	if string(second) != "cd" {
		t.Fatalf("second: %q", second)
	}
	scribble(second)
	if got := r.U16(); got != 'e'<<8|'f' {
		t.Fatalf("third: %x", got)
	}
	if got := r.Take(2); string(got) != "gh" {
		t.Fatalf("fourth: %q", got)
	}
	if string(first) != "##" {
		t.Fatalf("first: %q", first)
	}
}

// P2: two Readers of the same bytes go through them each on its own.
func TestReadersAreApart(t *testing.T) {
	p := []byte{1, 2, 3}
	a, b := word.New(p), word.New(p)
	a.Take(9)
	if b.Bad() || b.U8() != 1 || b.Left() != 2 || a.At() != 0 {
		t.Fatal("one Reader changed the other")
	}
}

// P1.1: Sub against what its words say, at every place and size around the bytes.
func TestSub(t *testing.T) {
	for size := range 6 {
		p := []byte("abcdef")[:size]
		for at := range 9 {
			for n := range 9 {
				got, ok := word.Sub(p, uint32(at), uint32(n))
				if at+n > size {
					if ok || len(got) != 0 {
						t.Errorf("Sub of %d bytes, %d, %d: %q, %v", size, at, n, got, ok)
					}
				} else if !ok || string(got) != string(p[at:at+n]) {
					t.Errorf("Sub of %d bytes, %d, %d: %q, %v", size, at, n, got, ok)
				}
			}
		}
	}
}

// P1.1: places and sizes whose sum doesn't fit in 32 bits.
func TestSubFarOut(t *testing.T) {
	p := []byte("abcd")
	for _, c := range [][2]uint32{
		{math.MaxUint32, 0}, {math.MaxUint32, 1}, {math.MaxUint32, 2}, {math.MaxUint32, 5},
		{math.MaxUint32, math.MaxUint32}, {0, math.MaxUint32}, {1, math.MaxUint32},
		{2, math.MaxUint32}, {1 << 31, 1 << 31}, {1<<31 + 1, 1 << 31},
	} {
		if got, ok := word.Sub(p, c[0], c[1]); ok || len(got) != 0 {
			t.Errorf("Sub %d, %d: %q, %v", c[0], c[1], got, ok)
		}
	}
	if _, ok := word.Sub(nil, 0, 1); ok {
		t.Error("a byte of nil")
	}
	if got, ok := word.Sub(nil, 0, 0); !ok || len(got) != 0 {
		t.Error("nothing of nil")
	}
}

// P1.1: bytes of the spare room aren't there.
func TestSubLeavesSpareRoom(t *testing.T) {
	room := []byte("abcdef")
	if got, ok := word.Sub(room[:3], 2, 2); ok || len(got) != 0 {
		t.Fatalf("spare room: %q", got)
	}
	if r := word.New(room[:3]); len(r.Take(4)) != 0 || !r.Bad() {
		t.Fatal("spare room taken")
	}
}

// Rule 'Memory': what Sub answers, its spare room too, is nobody else's.
func TestSubIsNew(t *testing.T) {
	room := []byte("abcdefgh")
	p := room[:6]
	first, _ := word.Sub(p, 1, 2)
	none, _ := word.Sub(p, 3, 0)
	second, _ := word.Sub(p, 1, 2)
	scribble(first)
	scribble(none)
	if string(second) != "bc" || string(room) != "abcdefgh" {
		t.Fatalf("%q, %q", second, room)
	}
	copy(room, "XXXXXXXX")
	if string(second) != "bc" {
		t.Fatalf("kept: %q", second)
	}
}

// P1.2: a Writer adds numbers highest byte first, and each call answers it.
func TestWriter(t *testing.T) {
	var w word.Writer
	if len(w.Done()) != 0 {
		t.Fatal("a zero Writer has something")
	}
	for i, answer := range []*word.Writer{
		w.U8(7), w.U16(300), w.I16(-2), w.U32(0x89abcdef), w.Put([]byte("hi")), w.Put(nil), w.Put([]byte{}), w.I16(math.MinInt16), w.U8(0xff),
	} {
		if answer != &w {
			t.Errorf("call %d answers another Writer", i)
		}
	}
	want := "\x07\x01\x2c\xff\xfe\x89\xab\xcd\xefhi\x80\x00\xff"
	if got := w.Done(); string(got) != want {
		t.Fatalf("%x", got)
	}
	if got := w.U16(1).Done(); string(got) != want+"\x00\x01" {
		t.Fatalf("behind Done: %x", got)
	}
}

// P1.1, P1.2: what is written is read.
func TestWrittenIsRead(t *testing.T) {
	for n := range 1 << 16 {
		var w word.Writer
		r := word.New(w.U16(uint16(n)).I16(int16(n)).U32(uint32(n) * 65537).U8(byte(n)).Done())
		if r.U16() != uint16(n) || r.I16() != int16(n) || r.U32() != uint32(n)*65537 || r.U8() != byte(n) {
			t.Fatalf("%d", n)
		}
		wantState(t, r, state{9, 0, false})
	}
}

// P1.2: of a nil Writer nil, nothing.
func TestNilWriter(t *testing.T) {
	var w *word.Writer
	for i, answer := range []*word.Writer{w.U8(1), w.U16(1), w.I16(-1), w.U32(1), w.Put([]byte("hi")), w.Put(nil)} {
		if answer != nil {
			t.Errorf("call %d answers a Writer", i)
		}
	}
	if len(w.Done()) != 0 {
		t.Error("Done has something")
	}
}

// Rule 'Memory': what is handed to Put is neither changed nor kept.
func TestPutKeepsNothing(t *testing.T) {
	room := []byte("abcd--")
	var w word.Writer
	w.Put(room[:4]).U16(0x5858)
	if string(room) != "abcd--" {
		t.Fatalf("changed: %q", room)
	}
	copy(room, "######")
	if got := w.Done(); string(got) != "abcdXX" {
		t.Fatalf("kept: %q", got)
	}
}

// Rule 'Memory': what Done answers, its spare room too, is nobody else's.
func TestDoneIsNew(t *testing.T) {
	var w word.Writer
	first := w.Put([]byte("abc")).Done()
	second := w.Done()
	scribble(first)
	if string(second) != "abc" {
		t.Fatalf("second: %q", second)
	}
	w.Put([]byte("defgh"))
	scribble(second)
	if got := w.Done(); string(got) != "abcdefgh" {
		t.Fatalf("third: %q", got)
	}
	if string(first) != "###" || string(second) != "###" {
		t.Fatalf("written over: %q, %q", first, second)
	}
	if got := w.Put(w.Done()).Done(); string(got) != "abcdefghabcdefgh" {
		t.Fatalf("put itself: %q", got)
	}
}
