package seen_test

import (
	"math"
	"slices"
	"testing"

	"manifold/seen"
)

// The document's own numbers: how far below the greatest one a number may be, and the ends of all numbers.
const (
	far  = 63
	low  = -1 << 61
	high = 1 << 61
)

// noise tells numbers that are the same at each run, but have no pattern of their own.
func noise() func(below int) int {
	n := uint64(88172645463325252)
	return func(below int) int {
		n ^= n << 13
		n ^= n >> 7
		n ^= n << 17
		return int(n >> 1 % uint64(below))
	}
}

// patterns are the Bits of windows that may be: each number alone beside High, all but one, rows from either end, and some of no pattern.
func patterns() []uint64 {
	l := []uint64{1, math.MaxUint64, 0x5555555555555555, 0xaaaaaaaaaaaaaaab, 0xffffffff00000001, 0x00000000ffffffff, 0x8000000000000001, 0x7fffffffffffffff}
	for k := 1; k <= far; k++ {
		l = append(l, 1<<k|1, math.MaxUint64&^(1<<k), 1<<k-1, math.MaxUint64<<k|1)
	}
	next := noise()
	for range 40 {
		l = append(l, uint64(next(1<<32))<<32|uint64(next(1<<32))|1)
	}
	return l
}

// highs are Highs at both ends of all numbers, around 0, and ordinary ones.
func highs() []int64 {
	return []int64{low, low + 1, low + far, low + far + 1, -1000, -64, -63, -1, 0, 1, 63, 64, 65536, 123456789012345, high - 64, high - 63, high - 1, high}
}

// steps are how far a number may be above a High: around 0, around the ends of a window on both sides, and farther.
func steps() []int64 {
	l := []int64{-1 << 61, -1 << 33, -1 << 32, -65536, -1000, -257, -256, -255, 255, 256, 257, 1000, 65536, 1 << 32, 1<<32 + 1, 1 << 33, 1 << 61}
	for k := int64(-130); k <= 130; k++ {
		l = append(l, k)
	}
	return l
}

// mayBe tells whether a number is one of which the chapter speaks.
func mayBe(n int64) bool {
	return low <= n && n <= high
}

// known tells what a window knows, the greatest number first, by the chapter's words: bit k of its Bits is 1, if it knows High less k.
func known(w seen.Window) []int64 {
	var l []int64
	rest := w.Bits
	for k := range int64(64) {
		if rest%2 == 1 {
			l = append(l, w.High-k)
		}
		rest /= 2
	}
	return l
}

// windowOf tells the window that knows just those numbers, each of them told once and none too far below the first one, which is the greatest.
func windowOf(l []int64) seen.Window {
	w := seen.Window{High: l[0]}
	for _, n := range l {
		bit := uint64(1)
		for range l[0] - n {
			bit *= 2
		}
		w.Bits += bit
	}
	return w
}

// lastOf tells which of those numbers a window knows: each one once, the greatest first, as far as they are no more than 63 below it.
func lastOf(l []int64) []int64 {
	l = slices.Clone(l)
	slices.Sort(l)
	l = slices.Compact(l)
	slices.Reverse(l)
	return slices.DeleteFunc(l, func(n int64) bool { return n < l[0]-far })
}

// checkKnows holds Has and Many of a window against the numbers that it knows, and asks Has for what is around and far from them.
func checkKnows(t *testing.T, w seen.Window, want []int64) {
	t.Helper()
	if got := seen.Many(w); got != len(want) {
		t.Fatalf("Many(%v) = %d, want %d", w, got, len(want))
	}
	is := map[int64]bool{}
	for _, n := range want {
		is[n] = true
	}
	for _, step := range steps() {
		if n := w.High + step; mayBe(n) && seen.Has(w, n) != is[n] {
			t.Fatalf("Has(%v, %d) = %v", w, n, !is[n])
		}
	}
}

// checkMark holds one Mark against the chapter's words.
func checkMark(t *testing.T, w seen.Window, n int64) {
	t.Helper()
	was := w
	want := windowOf(lastOf(append(known(w), n)))
	if got := seen.Mark(w, n); got != want {
		t.Fatalf("Mark(%v, %d) = %v, want %v", w, n, got, want)
	}
	if w != was {
		t.Fatalf("Mark(%v, %d) left %v", was, n, w)
	}
}

// P11.1: windows of one number, at the ends and between them.
func TestFirst(t *testing.T) {
	for _, n := range highs() {
		w := seen.First(n)
		if want := (seen.Window{High: n, Bits: 1}); w != want {
			t.Errorf("First(%d) = %v, want %v", n, w, want)
		}
		checkKnows(t, w, []int64{n})
	}
}

// P11.1: the chapter's example.
func TestExample(t *testing.T) {
	w := seen.Mark(seen.Mark(seen.First(5), 7), 6)
	if want := (seen.Window{High: 7, Bits: 7}); w != want {
		t.Errorf("the window is %v, want %v", w, want)
	}
	for n := int64(-70); n <= 80; n++ {
		if got, want := seen.Has(w, n), 5 <= n && n <= 7; got != want {
			t.Errorf("Has(%d) = %v", n, got)
		}
	}
	if got := seen.Many(w); got != 3 {
		t.Errorf("Many = %d, want 3", got)
	}
}

// P11.1: marks above, within and below a window, at the edges that the chapter names.
func TestMarkTable(t *testing.T) {
	all := uint64(math.MaxUint64)
	for _, c := range []struct {
		w    seen.Window
		n    int64
		want seen.Window
	}{
		{seen.Window{High: 100, Bits: 1}, 100, seen.Window{High: 100, Bits: 1}},
		{seen.Window{High: 100, Bits: 1}, 101, seen.Window{High: 101, Bits: 3}},
		{seen.Window{High: 100, Bits: 1}, 102, seen.Window{High: 102, Bits: 5}},
		{seen.Window{High: 100, Bits: 1}, 162, seen.Window{High: 162, Bits: 1<<62 | 1}},
		{seen.Window{High: 100, Bits: 1}, 163, seen.Window{High: 163, Bits: 1<<63 | 1}},
		{seen.Window{High: 100, Bits: 1}, 164, seen.Window{High: 164, Bits: 1}},
		{seen.Window{High: 100, Bits: 1}, 165, seen.Window{High: 165, Bits: 1}},
		{seen.Window{High: 100, Bits: 3}, 163, seen.Window{High: 163, Bits: 1<<63 | 1}},
		{seen.Window{High: 100, Bits: 1<<63 | 1}, 101, seen.Window{High: 101, Bits: 3}},
		{seen.Window{High: 100, Bits: 1<<62 | 1}, 101, seen.Window{High: 101, Bits: 1<<63 | 3}},
		{seen.Window{High: 100, Bits: all}, 101, seen.Window{High: 101, Bits: all}},
		{seen.Window{High: 100, Bits: all}, 102, seen.Window{High: 102, Bits: all - 2}},
		{seen.Window{High: 100, Bits: all}, 163, seen.Window{High: 163, Bits: 1<<63 | 1}},
		{seen.Window{High: 100, Bits: all}, 164, seen.Window{High: 164, Bits: 1}},
		{seen.Window{High: 100, Bits: 1}, 99, seen.Window{High: 100, Bits: 3}},
		{seen.Window{High: 100, Bits: 3}, 99, seen.Window{High: 100, Bits: 3}},
		{seen.Window{High: 100, Bits: 1}, 38, seen.Window{High: 100, Bits: 1<<62 | 1}},
		{seen.Window{High: 100, Bits: 1}, 37, seen.Window{High: 100, Bits: 1<<63 | 1}},
		{seen.Window{High: 100, Bits: 1}, 36, seen.Window{High: 100, Bits: 1}},
		{seen.Window{High: 100, Bits: 1}, 35, seen.Window{High: 100, Bits: 1}},
		{seen.Window{High: 100, Bits: all - 2}, 36, seen.Window{High: 100, Bits: all - 2}},
		{seen.Window{High: -1, Bits: 1}, 0, seen.Window{High: 0, Bits: 3}},
		{seen.Window{High: 0, Bits: 1}, -63, seen.Window{High: 0, Bits: 1<<63 | 1}},
		{seen.Window{High: 0, Bits: 1}, -64, seen.Window{High: 0, Bits: 1}},
		{seen.Window{High: 0, Bits: 3}, 1 << 32, seen.Window{High: 1 << 32, Bits: 1}},
		{seen.Window{High: 1 << 32, Bits: 1}, 0, seen.Window{High: 1 << 32, Bits: 1}},
		{seen.Window{High: low, Bits: all}, high, seen.Window{High: high, Bits: 1}},
		{seen.Window{High: high, Bits: 1}, low, seen.Window{High: high, Bits: 1}},
		{seen.Window{High: high - 1, Bits: 5}, high, seen.Window{High: high, Bits: 11}},
		{seen.Window{High: low + 63, Bits: 1}, low, seen.Window{High: low + 63, Bits: 1<<63 | 1}},
		{seen.Window{High: low + 64, Bits: 1}, low, seen.Window{High: low + 64, Bits: 1}},
	} {
		if got := seen.Mark(c.w, c.n); got != c.want {
			t.Errorf("Mark(%v, %d) = %v, want %v", c.w, c.n, got, c.want)
		}
	}
}

// P11.1: each pattern of a window by each step, against the numbers themselves.
func TestMarkAll(t *testing.T) {
	for _, b := range patterns() {
		for _, step := range steps() {
			if n := 40 + step; mayBe(n) {
				checkMark(t, seen.Window{High: 40, Bits: b}, n)
			}
		}
	}
}

// P11.1: the same at both ends of all numbers, and around 0.
func TestMarkEnds(t *testing.T) {
	for _, h := range highs() {
		for _, b := range patterns()[:12] {
			for _, step := range steps() {
				if n := h + step; mayBe(n) {
					checkMark(t, seen.Window{High: h, Bits: b}, n)
				}
			}
		}
	}
}

// P11.1: what windows of all patterns know, and how many numbers that is.
func TestHasAndMany(t *testing.T) {
	for _, b := range patterns() {
		for _, h := range highs() {
			w := seen.Window{High: h, Bits: b}
			checkKnows(t, w, known(w))
		}
	}
	for k := 1; k <= 64; k++ {
		w := seen.Window{High: 9, Bits: math.MaxUint64 >> (64 - k)}
		if got := seen.Many(w); got != k {
			t.Errorf("Many(%v) = %d, want %d", w, got, k)
		}
	}
}

// P11.1: to mark what a window knows, or what is too far below, changes nothing; all else is known when it is marked.
func TestMarkAgain(t *testing.T) {
	for _, b := range patterns() {
		w := seen.Window{High: 1000, Bits: b}
		for n := int64(800); n <= 1200; n++ {
			got := seen.Mark(w, n)
			still := seen.Has(w, n) || n < w.High-far
			if (got == w) != still {
				t.Fatalf("Mark(%v, %d) = %v", w, n, got)
			}
			if seen.Has(got, n) != (n >= w.High-far) {
				t.Fatalf("Has(%v, %d) = %v", got, n, seen.Has(got, n))
			}
			if again := seen.Mark(got, n); again != got {
				t.Fatalf("Mark(%v, %d) again = %v", got, n, again)
			}
		}
	}
}

// checkRow marks numbers one behind the other and holds the window, at each step, against those that were marked.
func checkRow(t *testing.T, row []int64) {
	t.Helper()
	w := seen.First(row[0])
	for k := range row {
		if k > 0 {
			w = seen.Mark(w, row[k])
		}
		want := lastOf(row[:k+1])
		if w != windowOf(want) {
			t.Fatalf("of %v the window is %v, want %v", row[:k+1], w, windowOf(want))
		}
		checkKnows(t, w, want)
	}
}

// P11.2: rows that go on, go back, stand, leap and go to and fro by the edges of a window.
func TestRows(t *testing.T) {
	for _, row := range [][]int64{
		{5, 7, 6},
		{5, 5, 5},
		{0, 1, 2, 3, 4, 5, 6, 7},
		{7, 6, 5, 4, 3, 2, 1, 0},
		{0, 63, 0},
		{0, 64, 0},
		{64, 0, 1, 64},
		{63, 0, 64, 1, 0},
		{-63, 0, -64, 1, -62},
		{0, 1000, 0, 936, 937, 1063, 1000, 999},
		{low, high, low, high - 63, high - 64},
		{high, low, high - 1},
		{low, low + 63, low + 64, low + 1, low},
	} {
		checkRow(t, row)
	}
	var on, back []int64
	for k := range int64(200) {
		on = append(on, k)
		back = append(back, 200-k)
	}
	checkRow(t, on)
	checkRow(t, back)
}

// P11.2: each order of six numbers ends with the same window.
func TestOrders(t *testing.T) {
	// 12 is the least number that a window with the High 75 can know.
	numbers := []int64{11, 12, 50, 73, 74, 75}
	want := windowOf([]int64{75, 74, 73, 50, 12})
	var each func(row, rest []int64)
	each = func(row, rest []int64) {
		if len(rest) == 0 {
			w := seen.First(row[0])
			for _, n := range row[1:] {
				w = seen.Mark(w, n)
			}
			if w != want {
				t.Fatalf("of %v the window is %v, want %v", row, w, want)
			}
			return
		}
		for k, n := range rest {
			each(append(slices.Clone(row), n), slices.Delete(slices.Clone(rest), k, k+1))
		}
	}
	each(nil, numbers)
}

// P11.2: rows without a pattern, close together and wide apart.
func TestRandomRows(t *testing.T) {
	next := noise()
	for _, width := range []int{3, 20, 64, 65, 100, 300, 5000} {
		for range 12 {
			var row []int64
			from := int64(next(1<<40)) - 1<<39
			for range 90 {
				row = append(row, from+int64(next(width)))
			}
			checkRow(t, row)
		}
	}
	for range 12 {
		var row []int64
		at := int64(next(1 << 40))
		for range 90 {
			at += int64(next(40)) - 12
			row = append(row, at)
		}
		checkRow(t, row)
	}
}

// R4, R5: the same calls answer the same, and a window that is marked further stays as it was.
func TestSameAgain(t *testing.T) {
	w := seen.Window{High: 50, Bits: 0x8000000000000011}
	was := w
	for range 3 {
		for _, n := range []int64{51, 49, 50, -14, 500} {
			once := seen.Mark(w, n)
			if seen.Mark(once, 600) == once || seen.Mark(w, n) != once {
				t.Errorf("Mark(%v, %d) = %v at first", w, n, once)
			}
		}
		if w != was || seen.Many(w) != 3 {
			t.Errorf("the window is %v, was %v", w, was)
		}
	}
}

// R1: calls end at windows that may not be, and at numbers of which the chapter doesn't speak.
func TestWrong(t *testing.T) {
	numbers := []int64{math.MinInt64, math.MinInt64 + 1, low - 1, -1, 0, 1, high + 1, math.MaxInt64 - 1, math.MaxInt64}
	for _, h := range numbers {
		seen.First(h)
		for _, b := range []uint64{0, 1, 2, 1 << 63, math.MaxUint64, math.MaxUint64 - 1} {
			w := seen.Window{High: h, Bits: b}
			seen.Many(w)
			for _, n := range numbers {
				seen.Mark(w, n)
				seen.Has(w, n)
			}
		}
	}
}
