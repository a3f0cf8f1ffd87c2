package sfnt_test

import (
	"bytes"
	"math"
	"slices"
	"strconv"
	"strings"
	"testing"

	"punchcut/api"
	"punchcut/sfnt"
	"punchcut/tally"
)

// some is bytes that differ, of which each length is another text.
func some(size int) []byte {
	p := make([]byte, size)
	for i := range p {
		p[i] = byte(i*i*31 + i*7 + size*3 + 0xc5)
	}
	return p
}

// scribble writes over a list and over its spare room.
func scribble(p []byte) {
	p = p[:cap(p)]
	for i := range p {
		p[i] = '#'
	}
}

// row is what a directory tells of a table; a test lays rows that a font may not have, too.
type row struct {
	tag           string
	sum, at, size uint32
}

func number(n uint32, size int) []byte {
	p := make([]byte, size)
	for i := range p {
		p[size-1-i] = byte(n >> (8 * i))
	}
	return p
}

// plainFront is what stands ahead of the rows, with Search's numbers by the words of P3.1.
func plainFront(n int) []byte {
	power, exponent := 1, 0
	for power*2 <= n {
		power, exponent = power*2, exponent+1
	}
	p := []byte{0, 1, 0, 0}
	for _, k := range []int{n, 16 * power, exponent, 16*n - 16*power} {
		p = append(p, number(uint32(k), 2)...)
	}
	return p
}

// plainFont lays rows, and bytes behind them.
func plainFont(rows []row, data []byte) []byte {
	f := plainFront(len(rows))
	for _, r := range rows {
		f = append(f, r.tag...)
		f = append(f, number(r.sum, 4)...)
		f = append(f, number(r.at, 4)...)
		f = append(f, number(r.size, 4)...)
	}
	return append(f, data...)
}

// sumOf adds the words up byte by byte.
func sumOf(p []byte) uint32 {
	var sum uint32
	for i, b := range p {
		sum += uint32(b) << (24 - 8*(i%4))
	}
	return sum
}

// plainBuild is what P3.3 asks for, of tables whose tags rise.
func plainBuild(l []sfnt.Table) []byte {
	var rows []row
	var data []byte
	headAt := -1
	for _, t := range l {
		p := slices.Clone(t.Data)
		at := 12 + 16*len(l) + len(data)
		if t.Tag == "head" && len(p) >= 12 {
			copy(p[8:], "\x00\x00\x00\x00")
			headAt = at
		}
		rows = append(rows, row{t.Tag, sumOf(p), uint32(at), uint32(len(p))})
		data = append(data, p...)
		for len(data)%4 != 0 {
			data = append(data, 0)
		}
	}
	f := plainFont(rows, data)
	if headAt >= 0 {
		copy(f[headAt+8:], number(0xb1b0afba-sumOf(f), 4))
	}
	return f
}

// tags is n tags that rise.
func tags(n int) []string {
	var l []string
	for i := range n {
		l = append(l, "t"+string([]byte{'0' + byte(i/10), '0' + byte(i%10)})+"x")
	}
	return l
}

// tables is n tables of tags that rise and data of all lengths modulo four.
func tables(n int) []sfnt.Table {
	var l []sfnt.Table
	for i, tag := range tags(n) {
		l = append(l, sfnt.Table{Tag: tag, Data: some(i)})
	}
	return l
}

func check(t *testing.T, name string, f []byte, want api.Errno) {
	t.Helper()
	l, e := sfnt.Parse(f)
	if e != want {
		t.Errorf("%s: error %d, not %d", name, e, want)
	}
	if e != api.OK && len(l) != 0 {
		t.Errorf("%s: tables beside an error: %v", name, l)
	}
}

// P3.1: Search's three numbers, by their words, and noughts of what no directory has.
func TestSearch(t *testing.T) {
	for n := -70; n < 300; n++ {
		want := [3]uint16{}
		if n >= 1 && n <= 64 {
			front := plainFront(n)
			for i := range want {
				want[i] = uint16(front[6+2*i])<<8 | uint16(front[7+2*i])
			}
		}
		a, b, c := sfnt.Search(n)
		if [3]uint16{a, b, c} != want {
			t.Errorf("Search(%d): %d, %d, %d, not %d", n, a, b, c, want)
		}
	}
	for _, c := range []struct {
		n    int
		want [3]uint16
	}{
		{1, [3]uint16{16, 0, 0}},
		{7, [3]uint16{64, 2, 48}},
		{8, [3]uint16{128, 3, 0}},
		{63, [3]uint16{512, 5, 496}},
		{64, [3]uint16{1024, 6, 0}},
		{65, [3]uint16{}},
		{math.MaxInt, [3]uint16{}},
		{math.MinInt, [3]uint16{}},
	} {
		a, b, d := sfnt.Search(c.n)
		if [3]uint16{a, b, d} != c.want {
			t.Errorf("Search(%d): %d, %d, %d, not %d", c.n, a, b, d, c.want)
		}
	}
}

// P3.1, P3.3: a font's bytes, one by one.
func TestBuildBytes(t *testing.T) {
	f := sfnt.Build([]sfnt.Table{{Tag: "zz z"}, {Tag: "abcd", Data: []byte("hello")}})
	want := "\x00\x01\x00\x00" + "\x00\x02" + "\x00\x20\x00\x01\x00\x00" +
		"abcd" + "\xd7\x65\x6c\x6c" + "\x00\x00\x00\x2c" + "\x00\x00\x00\x05" +
		"zz z" + "\x00\x00\x00\x00" + "\x00\x00\x00\x34" + "\x00\x00\x00\x00" +
		"hello\x00\x00\x00"
	if string(f) != want {
		t.Fatalf("%q, not %q", f, want)
	}
}

// P3.1, P3.3: as many tables as may be, data of all lengths, none too.
func TestBuildAsTold(t *testing.T) {
	for n := 1; n <= 64; n++ {
		l := tables(n)
		if f := sfnt.Build(l); string(f) != string(plainBuild(l)) {
			t.Fatalf("%d tables: %x", n, f)
		}
	}
}

// P3.3: by their tags, byte by byte, whatever order they are handed in.
func TestBuildOrder(t *testing.T) {
	l := []sfnt.Table{
		{Tag: "\x00\x00\x00\x00", Data: some(1)},
		{Tag: "OS/2", Data: some(2)},
		{Tag: "Zzzz", Data: some(3)},
		{Tag: "aZZZ", Data: some(4)},
		{Tag: "cvt ", Data: some(5)},
		{Tag: "cvt0", Data: some(6)},
		{Tag: "head", Data: some(54)},
		{Tag: "\x7f\xff\xff\xff", Data: some(7)},
		{Tag: "\x80\x00\x00\x00", Data: some(8)},
		{Tag: "\xff\xff\xff\xff", Data: some(9)},
	}
	want := plainBuild(l)
	for turn := range l {
		turned := slices.Concat(l[turn:], l[:turn])
		if f := sfnt.Build(turned); string(f) != string(want) {
			t.Fatalf("from %d on: %x", turn, f)
		}
		slices.Reverse(turned)
		if f := sfnt.Build(turned); string(f) != string(want) {
			t.Fatalf("from %d back: %x", turn, f)
		}
	}
}

// P3.1, P3.3: a head of 12 bytes or more makes the sum Whole; one of fewer is a table as any other.
func TestBuildHead(t *testing.T) {
	for size := range 60 {
		l := []sfnt.Table{{Tag: "cmap", Data: some(7)}, {Tag: "head", Data: some(size)}, {Tag: "maxp", Data: some(6)}}
		f := sfnt.Build(l)
		if string(f) != string(plainBuild(l)) {
			t.Fatalf("head of %d bytes: %x", size, f)
		}
		if whole := tally.Sum(f) == tally.Whole; whole != (size >= 12) {
			t.Fatalf("head of %d bytes: sum %08x", size, tally.Sum(f))
		}
		got, e := sfnt.Parse(f)
		if e != api.OK || len(got) != 3 {
			t.Fatalf("head of %d bytes: %v, %d", size, got, e)
		}
		want := some(size)
		if size >= 12 {
			copy(want[8:12], got[1].Data[8:12])
		}
		if string(got[1].Data) != string(want) {
			t.Fatalf("head of %d bytes: %x, not %x", size, got[1].Data, want)
		}
	}
}

// P3.3: what stands at head's bytes 8 to 11 doesn't matter; nor do the like bytes of other tables change.
func TestBuildLaysOverHeadAlone(t *testing.T) {
	one, other := some(20), some(20)
	copy(other[8:12], "\xfe\xdc\xba\x98")
	a := sfnt.Build([]sfnt.Table{{Tag: "head", Data: one}, {Tag: "heae", Data: some(16)}})
	b := sfnt.Build([]sfnt.Table{{Tag: "head", Data: other}, {Tag: "heae", Data: some(16)}})
	if string(a) != string(b) {
		t.Fatalf("%x, %x", a, b)
	}
	if string(a[44+20:]) != string(some(16)) {
		t.Fatalf("%x", a)
	}
	f := sfnt.Build([]sfnt.Table{{Tag: "Head", Data: some(20)}})
	if string(f[28:]) != string(some(20)) {
		t.Fatalf("Head: %x", f)
	}
}

// P3.3: of what is no font, nothing.
func TestBuildNothing(t *testing.T) {
	for name, l := range map[string][]sfnt.Table{
		"none":               nil,
		"empty":              {},
		"one too many":       tables(65),
		"a tag of 0":         {{Tag: ""}},
		"a tag of 3":         {{Tag: "abc", Data: some(4)}},
		"a tag of 5":         {{Tag: "abcde", Data: some(4)}},
		"runes, not bytes":   {{Tag: "äöüß", Data: some(4)}},
		"behind right ones":  {{Tag: "abcd"}, {Tag: "head", Data: some(54)}, {Tag: "maxp "}},
		"ahead of right":     {{Tag: "ab"}, {Tag: "abcd"}},
		"twice":              {{Tag: "abcd"}, {Tag: "abcd"}},
		"twice, alike":       {{Tag: "abcd", Data: some(4)}, {Tag: "abcd", Data: some(4)}},
		"twice, not aside":   {{Tag: "abcd"}, {Tag: "head"}, {Tag: "abcd", Data: some(2)}},
		"twice, at the end":  append(tables(40), sfnt.Table{Tag: "t39x"}),
		"many more":          make([]sfnt.Table, 5000),
		"one tag many times": slices.Repeat([]sfnt.Table{{Tag: "abcd"}}, 64),
	} {
		if f := sfnt.Build(l); len(f) != 0 {
			t.Errorf("%s: %x", name, f)
		}
	}
	if f := sfnt.Build([]sfnt.Table{{Tag: "äö", Data: some(4)}}); len(f) == 0 {
		t.Error("a tag of four bytes that are two runes")
	}
}

// P3.3: MaxBytes in all, the directory and what pads included, and no byte more.
func TestBuildMaxBytes(t *testing.T) {
	room := api.MaxBytes - 12 - 2*16
	data := make([]byte, room+1)
	for _, c := range []struct {
		first, second int
		built         bool
	}{
		{room, 0, true},
		{room - 3, 0, true},
		{room + 1, 0, false},
		{room - 4, 4, true},
		{room - 4, 5, false},
		{room - 3, 1, false},
		{room - 7, 1, true},
		{0, room, true},
		{0, room + 1, false},
		{room, room, false},
	} {
		f := sfnt.Build([]sfnt.Table{{Tag: "aaaa", Data: data[:c.first]}, {Tag: "bbbb", Data: data[:c.second]}})
		if (len(f) > 0) != c.built || len(f) > api.MaxBytes {
			t.Errorf("%d and %d bytes: a font of %d", c.first, c.second, len(f))
		}
	}
}

// P3.2, P3.3: what is built is parsed, tables in the order of their tags.
func TestParseBuilt(t *testing.T) {
	for n := 1; n <= 64; n++ {
		l := tables(n)
		turned := slices.Clone(l)
		slices.Reverse(turned)
		got, e := sfnt.Parse(sfnt.Build(turned))
		if e != api.OK || len(got) != n {
			t.Fatalf("%d tables: %v, %d", n, got, e)
		}
		for i := range l {
			if got[i].Tag != l[i].Tag || string(got[i].Data) != string(l[i].Data) {
				t.Fatalf("%d tables: %d is %q %x", n, i, got[i].Tag, got[i].Data)
			}
		}
	}
}

// P3.2: what P3.2 doesn't rule out is read: gaps, tables in another order or one upon the other, bytes behind
// them, an end that isn't padded, a table of nothing at the end.
func TestParseOtherLayouts(t *testing.T) {
	data := []byte("abcdefghijklmnopqrs")
	a := uint32(12 + 4*16)
	part := func(from, size int) uint32 { return sumOf(data[from : from+size]) }
	f := plainFont([]row{
		{"one ", part(8, 11), a + 8, 11},
		{"over", part(0, 15), a, 15},
		{"same", part(8, 3), a + 8, 3},
		{"zero", 0, a + 16, 0},
	}, data)
	l, e := sfnt.Parse(f)
	want := []sfnt.Table{{"one ", data[8:19]}, {"over", data[:15]}, {"same", data[8:11]}, {"zero", nil}}
	if e != api.OK || !sfnt.Same(l, want) {
		t.Fatalf("%q, %d", l, e)
	}
	end := uint32(12 + 16)
	check(t, "nothing at the end", plainFont([]row{{"none", 0, end, 0}}, nil), api.OK)
	check(t, "nothing, unlike sum", plainFont([]row{{"none", 1, end, 0}}, nil), api.ErrSum)
	check(t, "nothing, beyond the end", plainFont([]row{{"none", 0, end + 4, 0}}, nil), api.ErrForm)
}

// P3.2: the bytes behind a table aren't part of its sum, but of the font's.
func TestParsePaddingThatIsNotNoughts(t *testing.T) {
	at := uint32(12 + 16)
	check(t, "no head", plainFont([]row{{"abcd", sumOf([]byte("abc")), at, 3}}, []byte("abcx")), api.OK)
	check(t, "with it summed", plainFont([]row{{"abcd", sumOf([]byte("abcx")), at, 3}}, []byte("abcx")), api.ErrSum)
	f := sfnt.Build([]sfnt.Table{{Tag: "head", Data: some(13)}})
	f[len(f)-1] = 1
	check(t, "head", f, api.ErrSum)
}

// P3.2: what isn't a font's form.
func TestParseForm(t *testing.T) {
	data := some(16)
	at := uint32(12 + 2*16)
	right := []row{{"aaaa", sumOf(data[:8]), at, 8}, {"bbbb", sumOf(data[8:]), at + 8, 8}}
	check(t, "right", plainFont(right, data), api.OK)
	with := func(i int, change func(r *row)) []byte {
		rows := slices.Clone(right)
		change(&rows[i])
		return plainFont(rows, data)
	}
	for name, f := range map[string][]byte{
		"nothing":                   nil,
		"no tables":                 plainFont(nil, data),
		"no tables, Search's":       append([]byte{0, 1, 0, 0, 0, 0, 0, 0, 0, 0, 0, 0}, data...),
		"tags alike":                with(1, func(r *row) { r.tag = "aaaa" }),
		"tags that fall":            with(0, func(r *row) { r.tag = "bbbc" }),
		"tags that fall, by sign":   with(0, func(r *row) { r.tag = "\xe0aaa" }),
		"tags that fall, last byte": with(1, func(r *row) { r.tag = "aaa`" }),
		"at 1":                      with(0, func(r *row) { r.at, r.size = at+1, 0 }),
		"at 2":                      with(0, func(r *row) { r.at, r.size = at+2, 0 }),
		"at 3":                      with(1, func(r *row) { r.at, r.size = at+3, 0 }),
		"at the beginning":          with(0, func(r *row) { r.at, r.size, r.sum = 0, 4, 0x10000 }),
		"within the directory":      with(1, func(r *row) { r.at, r.size, r.sum = at-4, 4, 8 }),
		"nothing in the directory":  with(1, func(r *row) { r.at, r.size, r.sum = at-4, 0, 0 }),
		"a byte too long":           with(1, func(r *row) { r.size++ }),
		"begins at the end":         with(1, func(r *row) { r.at, r.size = at+16, 1 }),
		"begins behind the end":     with(0, func(r *row) { r.at, r.size = at+20, 0 }),
		"end beyond 2^32":           with(0, func(r *row) { r.at, r.size = 0xfffffffc, 8 }),
		"end beyond 2^32 by size":   with(0, func(r *row) { r.size = 0xffffffff }),
		"both as great as may be":   with(0, func(r *row) { r.at, r.size = 0xfffffffc, 0xffffffff }),
	} {
		check(t, name, f, api.ErrForm)
	}
}

// P3.2: a font begins as P3.1 says, bit by bit.
func TestParseFront(t *testing.T) {
	f := sfnt.Build(tables(5))
	check(t, "right", f, api.OK)
	for i := range 12 * 8 {
		g := slices.Clone(f)
		g[i/8] ^= 1 << (i % 8)
		check(t, "bit "+strconv.Itoa(i), g, api.ErrForm)
	}
	for _, text := range []string{"OTTO", "true", "ttcf", "\x00\x02\x00\x00", "\x00\x00\x01\x00"} {
		check(t, text, append([]byte(text), f[4:]...), api.ErrForm)
	}
}

// P3.2: MaxTables are read, one more isn't, whatever Search's numbers might be.
func TestParseMaxTables(t *testing.T) {
	for _, n := range []int{64, 65, 66, 1000, 65535} {
		rows := make([]row, n)
		for i := range rows {
			rows[i] = row{string(number(uint32(i), 4)), 0, uint32(12 + 16*n), 0}
		}
		want := api.ErrForm
		if n == 64 {
			want = api.OK
		}
		f := plainFont(rows, nil)
		check(t, "many", f, want)
		copy(f[6:], "\x00\x00\x00\x00\x00\x00")
		check(t, "many, Search's noughts", f, api.ErrForm)
	}
}

// P3.2: of a font that is cut off anywhere something isn't all there.
func TestParseCutOff(t *testing.T) {
	for _, l := range [][]sfnt.Table{
		{{Tag: "abcd", Data: some(8)}},
		{{Tag: "aaaa", Data: some(3)}, {Tag: "head", Data: some(56)}},
		append(tables(63), sfnt.Table{Tag: "zzzz", Data: some(4)}),
	} {
		f := sfnt.Build(l)
		for size := range f {
			check(t, "cut off", f[:size], api.ErrForm)
		}
	}
}

// P3.2: the sums, each table's, and the font's where head has a place for it.
func TestParseSum(t *testing.T) {
	l := []sfnt.Table{{Tag: "cmap", Data: some(9)}, {Tag: "head", Data: some(54)}, {Tag: "maxp", Data: some(6)}}
	f := sfnt.Build(l)
	for i := 12; i < len(f); i++ {
		g := slices.Clone(f)
		g[i]++
		if got, e := sfnt.Parse(g); e == api.OK || len(got) != 0 {
			t.Fatalf("byte %d: %v, %d", i, got, e)
		}
	}
	for i := range 3 {
		for k := range 4 {
			g := slices.Clone(f)
			g[12+16*i+4+k]++
			check(t, "a sum told wrong", g, api.ErrSum)
		}
	}
	for i := 12 + 3*16; i < len(f); i++ {
		g := slices.Clone(f)
		g[i]++
		check(t, "a byte of the data", g, api.ErrSum)
	}
}

// P3.2: a table's sum is wrong, while the font's is Whole; and the other way round.
func TestParseEachSumAlone(t *testing.T) {
	l := []sfnt.Table{{Tag: "cmap", Data: some(8)}, {Tag: "head", Data: some(16)}}
	f := sfnt.Build(l)
	g := slices.Clone(f)
	copy(g[12+4:], number(sumOf(f[12+4:12+8])+1, 4))
	copy(g[28+4:], number(sumOf(f[28+4:28+8])-1, 4))
	if tally.Sum(g) != tally.Whole {
		t.Fatal("the font's sum should have stayed")
	}
	check(t, "tables' sums alone", g, api.ErrSum)
	at := 12 + 2*16 + 8 + 8
	for k := range 4 {
		g := slices.Clone(f)
		g[at+k]++
		check(t, "the font's sum alone", g, api.ErrSum)
	}
	g = append(slices.Clone(f), 0, 0, 0, 1)
	check(t, "bytes behind all tables", g, api.ErrSum)
	check(t, "noughts behind all tables", append(slices.Clone(f), 0, 0, 0), api.OK)
}

// P3.2: without a head of 12 bytes no sum of the font is asked for; head's bytes are all in its own then.
func TestParseShortHead(t *testing.T) {
	f := sfnt.Build([]sfnt.Table{{Tag: "head", Data: some(11)}})
	check(t, "11 bytes", append(slices.Clone(f), 5), api.OK)
	for k := range 11 {
		g := slices.Clone(f)
		g[28+k]++
		check(t, "11 bytes, one changed", g, api.ErrSum)
	}
	f = sfnt.Build([]sfnt.Table{{Tag: "head", Data: some(12)}})
	check(t, "12 bytes", f, api.OK)
	check(t, "12 bytes, more behind", append(slices.Clone(f), 5), api.ErrSum)
	f = sfnt.Build([]sfnt.Table{{Tag: "heaD", Data: some(54)}})
	check(t, "another tag", append(slices.Clone(f), 5), api.OK)
	f[28+9]++
	check(t, "another tag, changed", f, api.ErrSum)
}

// P3.2: ErrForm, wherever it is, ahead of ErrSum.
func TestParseFormAheadOfSum(t *testing.T) {
	data := some(8)
	at := uint32(12 + 2*16)
	check(t, "wrong sum", plainFont([]row{{"aaaa", 1, at, 8}, {"bbbb", 0, at + 8, 0}}, data), api.ErrSum)
	check(t, "not there", plainFont([]row{{"aaaa", 1, at, 8}, {"bbbb", 0, at, 9}}, data), api.ErrForm)
	check(t, "not at four", plainFont([]row{{"aaaa", 1, at, 8}, {"bbbb", 0, at + 2, 0}}, data), api.ErrForm)
	check(t, "tags fall", plainFont([]row{{"bbbb", 1, at, 8}, {"aaaa", 0, at, 0}}, data), api.ErrForm)
	check(t, "within", plainFont([]row{{"aaaa", 1, at, 8}, {"bbbb", 0, 0, 0}}, data), api.ErrForm)
}

// P3.3: Find, the first of a tag.
func TestFind(t *testing.T) {
	l := []sfnt.Table{{"bbbb", []byte("1")}, {"aaaa", []byte("2")}, {"bbbb", []byte("3")}, {"none", nil}, {"", []byte("4")}}
	for _, c := range []struct {
		tag, want string
		ok        bool
	}{
		{"bbbb", "1", true}, {"aaaa", "2", true}, {"none", "", true}, {"", "4", true},
		{"bbb", "", false}, {"bbbbb", "", false}, {"BBBB", "", false}, {"zzzz", "", false},
	} {
		if p, ok := sfnt.Find(l, c.tag); string(p) != c.want || ok != c.ok {
			t.Errorf("%q: %q, %v", c.tag, p, ok)
		}
	}
	if p, ok := sfnt.Find(nil, "head"); len(p) != 0 || ok {
		t.Error("of no tables")
	}
	if p, ok := sfnt.Find(nil, ""); len(p) != 0 || ok {
		t.Error("of no tables, no tag")
	}
}

// P3.3: Same; nil and empty are.
func TestSame(t *testing.T) {
	l := func(s ...string) []sfnt.Table {
		var l []sfnt.Table
		for _, s := range s {
			tag, data, _ := strings.Cut(s, "=")
			l = append(l, sfnt.Table{Tag: tag, Data: []byte(data)})
		}
		return l
	}
	for _, c := range []struct {
		a, b []sfnt.Table
		want bool
	}{
		{nil, nil, true},
		{nil, []sfnt.Table{}, true},
		{[]sfnt.Table{{"a", nil}}, []sfnt.Table{{"a", []byte{}}}, true},
		{l("a=1", "b=2"), l("a=1", "b=2"), true},
		{l("a=1", "b=2"), l("b=2", "a=1"), false},
		{l("a=1", "b=2"), l("a=1"), false},
		{l("a=1"), l("a=1", "b=2"), false},
		{l("a=1"), l("a=2"), false},
		{l("a=1"), l("a=12"), false},
		{l("a=1"), l("b=1"), false},
		{l("a="), nil, false},
	} {
		if sfnt.Same(c.a, c.b) != c.want || sfnt.Same(c.b, c.a) != c.want {
			t.Errorf("Same of %v, %v", c.a, c.b)
		}
	}
}

// P1: any bytes are answered, ones near to a font, too, and what is answered is what P3.2 allows.
func TestParseAnything(t *testing.T) {
	f := sfnt.Build([]sfnt.Table{{Tag: "cmap", Data: some(9)}, {Tag: "head", Data: some(54)}})
	seed := uint32(1)
	for range 20000 {
		g := slices.Clone(f)
		for range 3 {
			seed = seed*1664525 + 1013904223
			g[int(seed>>8)%len(g)] = byte(seed >> 3 & 0x8f)
		}
		l, e := sfnt.Parse(g)
		if e != api.OK && e != api.ErrForm && e != api.ErrSum || e != api.OK && len(l) != 0 {
			t.Fatalf("%x: %v, %d", g, l, e)
		}
	}
}

// Rule 'Memory': Parse's tables are the caller's own, each of them.
func TestParseMemory(t *testing.T) {
	data := []byte("abcdefgh")
	at := uint32(12 + 2*16)
	f := plainFont([]row{{"one ", sumOf(data), at, 8}, {"two ", sumOf(data[:5]), at, 5}}, data)
	kept := string(f)
	l, e := sfnt.Parse(f)
	if e != api.OK {
		t.Fatal(e)
	}
	scribble(l[0].Data)
	if string(l[1].Data) != "abcde" || string(f) != kept {
		t.Fatalf("%q, %q", l[1].Data, f)
	}
	scribble(f)
	if l[1].Tag != "two " || string(l[1].Data) != "abcde" {
		t.Fatalf("%q", l)
	}
	scribble(l[1].Data)
}

// Rule 'Memory': Build and Find change nothing, and share nothing.
func TestBuildMemory(t *testing.T) {
	room := bytes.Repeat([]byte("abcdefgh"), 4)
	l := []sfnt.Table{{"zzzz", room[:5]}, {"head", room[8:21]}, {"aaaa", room[24:26]}}[:2:3]
	f := sfnt.Build(l)
	kept := string(f)
	again := sfnt.Build(l)
	p, _ := sfnt.Find(l, "head")
	scribble(again)
	scribble(p)
	if string(f) != kept || string(room) != strings.Repeat("abcdefgh", 4) {
		t.Fatalf("%q, %q", f, room)
	}
	if l[0].Tag != "zzzz" || l[1].Tag != "head" || l[:3][2].Tag != "aaaa" {
		t.Fatal(l)
	}
	p, _ = sfnt.Find(l, "zzzz")
	scribble(room)
	if string(f) != kept || string(p) != "abcde" {
		t.Fatalf("%q, %q", f, p)
	}
}
