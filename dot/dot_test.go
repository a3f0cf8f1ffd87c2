package dot_test

import (
	"math"
	"math/big"
	"slices"
	"testing"

	"punchcut/dot"
)

// plainRound is n and 8192, by 16384, rounded down: big's Div rounds down where the divisor is above 0.
func plainRound(n *big.Int) *big.Int {
	sum := new(big.Int).Add(n, big.NewInt(8192))
	return sum.Div(sum, big.NewInt(16384))
}

// plainApply works P4.1's words out in numbers of any size.
func plainApply(m dot.Matrix, p dot.Point) dot.Point {
	sum := func(a int16, x int, b int16, y int) int {
		s := new(big.Int).Mul(big.NewInt(int64(a)), big.NewInt(int64(x)))
		s.Add(s, new(big.Int).Mul(big.NewInt(int64(b)), big.NewInt(int64(y))))
		return int(plainRound(s).Int64())
	}
	return dot.Point{X: sum(m.XX, p.X, m.YX, p.Y), Y: sum(m.XY, p.X, m.YY, p.Y), On: p.On}
}

// coordinates are ordinary ones, halves, and the greatest that are promised.
func coordinates() []int {
	l := []int{0, 1, 2, 3, 7, 100, 8191, 8192, 8193, 16383, 16384, 32767, 32768, 1 << 20, 1<<46 - 1, 1 << 46}
	for _, n := range slices.Clone(l) {
		l = append(l, -n)
	}
	return l
}

// P4.1: halves go up, below 0 too.
func TestRound(t *testing.T) {
	for n, want := range map[int]int{
		0: 0, 1: 0, 8191: 0, 8192: 1, 8193: 1, 16384: 1, 24575: 1, 24576: 2, 32768: 2,
		-1: 0, -8191: 0, -8192: 0, -8193: -1, -16384: -1, -24576: -1, -24577: -2, -32768: -2, -40960: -2, -40961: -3,
		1 << 62: 1 << 48, -1 << 62: -1 << 48, 1<<62 - 1: 1 << 48, 1<<62 - 8193: 1<<48 - 1, 1 - 1<<62: -1 << 48,
	} {
		if got := dot.Round(n); got != want {
			t.Errorf("Round(%d): %d, not %d", n, got, want)
		}
	}
	for n := -70000; n < 70000; n++ {
		if got := dot.Round(n); int64(got) != plainRound(big.NewInt(int64(n))).Int64() {
			t.Fatalf("Round(%d): %d", n, got)
		}
	}
}

// P4.1: the matrices, and that One is 1.
func TestMatrices(t *testing.T) {
	if dot.One != 16384 {
		t.Error("One")
	}
	if m := dot.Unit(); m != (dot.Matrix{XX: 16384, YY: 16384}) {
		t.Error("Unit", m)
	}
	for _, n := range []int16{0, 1, -1, 16384, -16384, 32767, -32768} {
		if m := dot.Scale(n); m != (dot.Matrix{XX: n, XY: 0, YX: 0, YY: n}) {
			t.Error("Scale", n, m)
		}
	}
	for _, x := range coordinates() {
		for _, y := range coordinates() {
			p := dot.Point{X: x, Y: y, On: x > y}
			if dot.Unit().Apply(p) != p {
				t.Fatalf("Unit of %v: %v", p, dot.Unit().Apply(p))
			}
		}
	}
}

// P4.1: which number goes with which, one by one.
func TestApplyEachNumber(t *testing.T) {
	p := dot.Point{X: 3, Y: 5, On: true}
	for _, c := range []struct {
		m    dot.Matrix
		want dot.Point
	}{
		{dot.Matrix{}, dot.Point{On: true}},
		{dot.Matrix{XX: 16384}, dot.Point{X: 3, On: true}},
		{dot.Matrix{XY: 16384}, dot.Point{Y: 3, On: true}},
		{dot.Matrix{YX: 16384}, dot.Point{X: 5, On: true}},
		{dot.Matrix{YY: 16384}, dot.Point{Y: 5, On: true}},
		{dot.Matrix{XX: 8192}, dot.Point{X: 2, On: true}},
		{dot.Matrix{XX: -8192}, dot.Point{X: -1, On: true}},
		{dot.Matrix{XX: 8192, YX: 8192}, dot.Point{X: 4, On: true}},
		{dot.Matrix{XY: -8192, YY: -16384}, dot.Point{Y: -6, On: true}},
	} {
		if got := c.m.Apply(p); got != c.want {
			t.Errorf("%v of %v: %v, not %v", c.m, p, got, c.want)
		}
		off := p
		off.On = false
		if got := c.m.Apply(off); got.On || got.X != c.want.X || got.Y != c.want.Y {
			t.Errorf("%v, not on the curve: %v", c.m, got)
		}
	}
}

// P4.1: Apply up to the greatest points that are promised; the sum is rounded, not its parts.
func TestApply(t *testing.T) {
	numbers := []int16{0, 1, -1, 5461, 8192, -8192, 16384, -16384, 32767, -32768}
	for _, xx := range numbers {
		for _, other := range numbers {
			m := dot.Matrix{XX: xx, XY: other, YX: -other / 2, YY: xx ^ 0x55}
			extreme := dot.Matrix{XX: xx, XY: other, YX: other, YY: xx}
			for _, x := range coordinates() {
				for _, y := range coordinates() {
					p := dot.Point{X: x, Y: y, On: (x+y)%2 == 0}
					if got, want := m.Apply(p), plainApply(m, p); got != want {
						t.Fatalf("%v of %v: %v, not %v", m, p, got, want)
					}
					if got, want := extreme.Apply(p), plainApply(extreme, p); got != want {
						t.Fatalf("%v of %v: %v, not %v", extreme, p, got, want)
					}
				}
			}
		}
	}
}

// P4.1: so much further, each way on its own.
func TestMove(t *testing.T) {
	for _, x := range coordinates() {
		for _, y := range coordinates() {
			p := dot.Point{X: 3, Y: -5, On: true}
			if got := p.Move(x, y); got != (dot.Point{X: 3 + x, Y: -5 + y, On: true}) {
				t.Fatalf("by %d, %d: %v", x, y, got)
			}
			p = dot.Point{X: x, Y: y}
			if got := p.Move(-7, 1<<46); got != (dot.Point{X: x - 7, Y: y + 1<<46}) {
				t.Fatalf("of %v: %v", p, got)
			}
		}
	}
}

// P4.1: each point Applied first, then Moved, in order.
func TestAll(t *testing.T) {
	l := []dot.Point{{X: 1, Y: 2, On: true}, {X: -3, Y: 4}, {X: 1, Y: 2, On: true}, {X: 100, Y: -100}}
	m := dot.Matrix{XX: 8192, XY: 16384, YX: -16384, YY: 4096}
	got := dot.All(l, m, 10, -20)
	want := []dot.Point{{X: 9, Y: -18, On: true}, {X: 5, Y: -22}, {X: 9, Y: -18, On: true}, {X: 160, Y: 55}}
	if !slices.Equal(got, want) {
		t.Fatal(got)
	}
	for size := range l {
		if got := dot.All(l[:size], m, 10, -20); !slices.Equal(got, want[:size]) {
			t.Fatal(size, got)
		}
	}
	if len(dot.All(nil, m, 1, 2)) != 0 || len(dot.All([]dot.Point{}, m, 1, 2)) != 0 {
		t.Fatal("of no points")
	}
	if got := dot.All([]dot.Point{{X: 2}}, dot.Scale(-16384), 5, 6); got[0] != (dot.Point{X: 3, Y: 6}) {
		t.Fatal(got)
	}
}

// Rule 'Memory': All's answer is new, and what is handed in stays.
func TestAllMemory(t *testing.T) {
	room := []dot.Point{{X: 1}, {X: 2}, {X: 3}}
	kept := slices.Clone(room)
	got := dot.All(room[:2], dot.Unit(), 0, 0)
	again := dot.All(room[:2], dot.Unit(), 0, 0)
	for i := range got[:cap(got)] {
		got[:cap(got)][i] = dot.Point{X: 99}
	}
	if !slices.Equal(room, kept) || !slices.Equal(again, kept[:2]) {
		t.Fatal(room, again)
	}
	room[0].X = 77
	if !slices.Equal(again, kept[:2]) {
		t.Fatal(again)
	}
}

// P1: numbers beyond what is promised end without panic.
func TestFarOut(t *testing.T) {
	for _, n := range []int{math.MaxInt, math.MinInt, math.MaxInt - 8191, 1<<62 + 1} {
		dot.Round(n)
		p := dot.Point{X: n, Y: n}
		dot.Scale(-32768).Apply(p)
		p.Move(n, n)
		if l := dot.All([]dot.Point{p, p}, dot.Scale(32767), n, n); len(l) != 2 {
			t.Fatal(l)
		}
	}
}
