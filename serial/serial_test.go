package serial_test

import (
	"math"
	"testing"

	"manifold/serial"
)

// shorts are numbers at the ends, around the middle and around the quarters of a round, and some of no pattern.
func shorts() []uint16 {
	l := []uint16{12345, 54321, 0x00ff, 0xff00, 0x0100, 0xaaaa, 0x5555}
	for _, middle := range []uint16{0, 1 << 14, 1 << 15, 3 << 14} {
		for k := range uint16(7) {
			l = append(l, middle+k-3)
		}
	}
	return l
}

// longs likewise, of 32 bits; among them such as differ in the upper 16 bits alone.
func longs() []uint32 {
	l := []uint32{123456789, 4000000000, 65535, 65536, 65537, 0xffff0000, 0x0000ffff, 0x80008000, 0xaaaaaaaa, 0x55555555, 32767, 32768}
	for _, middle := range []uint32{0, 1 << 30, 1 << 31, 3 << 30} {
		for k := range uint32(7) {
			l = append(l, middle+k-3)
		}
	}
	return l
}

// nears are numbers at both ends of what Extend may be asked near, and around whole and half rounds.
func nears() []int64 {
	l := []int64{1<<62 - 65536, 1<<62 - 32768, 1<<62 - 1, 1 << 62, 123456789012345}
	for _, middle := range []int64{32768, 65536, 98304, 131072, 1 << 31, 1 << 32, 1<<40 + 32768, 1 << 48} {
		for k := range int64(5) {
			l = append(l, middle+k-2)
		}
	}
	for k := range int64(4) {
		l = append(l, k)
	}
	return l
}

// within tells the number from low to low and round-1 that is n, but for a multiple of round: it goes there round by round, in few steps.
func within(n, low, round int64) int64 {
	n -= (n - low) / round * round
	for n < low {
		n += round
	}
	for n >= low+round {
		n -= round
	}
	return n
}

// P2.1: how far b is ahead of a, and whether it is newer, at the edges that the chapter names and at ordinary numbers.
func TestAheadTable(t *testing.T) {
	for _, c := range []struct {
		a, b  uint16
		want  int
		newer bool
	}{
		{65535, 2, 3, true},
		{2, 65535, -3, false},
		{0, 0, 0, false},
		{65535, 65535, 0, false},
		{0, 1, 1, true},
		{1, 0, -1, false},
		{65535, 0, 1, true},
		{0, 65535, -1, false},
		{0, 32767, 32767, true},
		{0, 32768, -32768, false},
		{32768, 0, -32768, false},
		{0, 32769, -32767, false},
		{32769, 0, 32767, true},
		{100, 32867, 32767, true},
		{100, 32868, -32768, false},
		{40000, 7231, 32767, true},
		{40000, 7232, -32768, false},
	} {
		if got := serial.Ahead(c.a, c.b); got != c.want {
			t.Errorf("Ahead %d %d: %d, not %d", c.a, c.b, got, c.want)
		}
		if got := serial.Newer(c.a, c.b); got != c.newer {
			t.Errorf("Newer %d %d: %t", c.a, c.b, got)
		}
	}
}

// P2.1: the same of numbers of 32 bits.
func TestAheadLongTable(t *testing.T) {
	for _, c := range []struct {
		a, b uint32
		want int64
	}{
		{1<<32 - 1, 2, 3},
		{2, 1<<32 - 1, -3},
		{0, 0, 0},
		{1<<32 - 1, 1<<32 - 1, 0},
		{0, 1, 1},
		{1, 0, -1},
		{0, 32768, 32768},
		{0, 65536, 65536},
		{65536, 0, -65536},
		{65535, 65536, 1},
		{0, 1<<31 - 1, 1<<31 - 1},
		{0, 1 << 31, -1 << 31},
		{1 << 31, 0, -1 << 31},
		{0, 1<<31 + 1, -1<<31 + 1},
		{1<<31 + 1, 0, 1<<31 - 1},
		{100, 1<<31 + 99, 1<<31 - 1},
		{100, 1<<31 + 100, -1 << 31},
	} {
		if got := serial.AheadLong(c.a, c.b); got != c.want {
			t.Errorf("AheadLong %d %d: %d, not %d", c.a, c.b, got, c.want)
		}
	}
}

// P2.1: of each two of the numbers, the answer is the one number in range that is b less a but for whole rounds.
func TestAheadAll(t *testing.T) {
	for _, a := range shorts() {
		for _, b := range shorts() {
			want := int(within(int64(b)-int64(a), -32768, 65536))
			if got := serial.Ahead(a, b); got != want {
				t.Errorf("Ahead %d %d: %d, not %d", a, b, got, want)
			}
			if got := serial.Newer(a, b); got != (want > 0) {
				t.Errorf("Newer %d %d: %t", a, b, got)
			}
		}
	}
	for _, a := range longs() {
		for _, b := range longs() {
			want := within(int64(b)-int64(a), -1<<31, 1<<32)
			if got := serial.AheadLong(a, b); got != want {
				t.Errorf("AheadLong %d %d: %d, not %d", a, b, got, want)
			}
		}
	}
}

// P2.1: ahead of one number, all the numbers of 16 bits are as far as they are, each at its own distance.
func TestAheadWholeRound(t *testing.T) {
	const a = 50000
	for far := -32768; far <= 32767; far++ {
		b := uint16((a + far + 65536) % 65536)
		if got := serial.Ahead(a, b); got != far {
			t.Fatalf("Ahead %d %d: %d, not %d", a, b, got, far)
		}
		if got := serial.Newer(a, b); got != (far > 0) {
			t.Fatalf("Newer %d %d: %t", a, b, got)
		}
	}
}

// P2.2: First is s and 65536, together, of all s.
func TestFirst(t *testing.T) {
	for s := range 65536 {
		if got := serial.First(uint16(s)); got != int64(s)+65536 {
			t.Fatalf("First %d: %d", s, got)
		}
	}
}

// P2.2: Extend at the chapter's example, at both ends of the window, and below 0.
func TestExtendTable(t *testing.T) {
	for _, c := range []struct {
		near int64
		s    uint16
		want int64
	}{
		{65535, 2, 65538},
		{65538, 65535, 65535},
		{65536, 0, 65536},
		{65536, 65535, 65535},
		{0, 0, 0},
		{0, 1, 1},
		{0, 65535, -1},
		{0, 32767, 32767},
		{0, 32768, -32768},
		{1, 32768, 32768},
		{1, 32769, -32767},
		{32767, 65535, -1},
		{32768, 65535, 65535},
		{98304, 0, 65536},
		{98305, 0, 131072},
		{1 << 62, 0, 1 << 62},
		{1 << 62, 32767, 1<<62 + 32767},
		{1 << 62, 32768, 1<<62 - 32768},
		{1<<62 - 1, 32766, 1<<62 + 32766},
		{1<<62 - 1, 32767, 1<<62 - 32769},
	} {
		if got := serial.Extend(c.near, c.s); got != c.want {
			t.Errorf("Extend %d %d: %d, not %d", c.near, c.s, got, c.want)
		}
	}
}

// P2.2: near each of the numbers, the answer is the one number of the window that is s but for whole rounds.
func TestExtendAll(t *testing.T) {
	for _, near := range nears() {
		for _, s := range shorts() {
			want := within(int64(s), near-32768, 65536)
			if got := serial.Extend(near, s); got != want {
				t.Errorf("Extend %d %d: %d, not %d", near, s, got, want)
			}
		}
	}
}

// P2.2: Low, of numbers on both sides of 0 and at both ends.
func TestLowTable(t *testing.T) {
	for _, c := range []struct {
		n    int64
		want uint16
	}{
		{0, 0},
		{1, 1},
		{65535, 65535},
		{65536, 0},
		{65538, 2},
		{1<<32 + 7, 7},
		{1 << 62, 0},
		{1<<62 - 1, 65535},
		{-1, 65535},
		{-2, 65534},
		{-32768, 32768},
		{-65535, 1},
		{-65536, 0},
		{-65537, 65535},
		{-1 << 62, 0},
		{-1<<62 + 5, 5},
	} {
		if got := serial.Low(c.n); got != c.want {
			t.Errorf("Low %d: %d, not %d", c.n, got, c.want)
		}
	}
}

// P2.2: Low, and its number's distance to n is whole rounds, on both sides of 0.
func TestLowAll(t *testing.T) {
	for _, near := range nears() {
		for _, n := range []int64{near, -near} {
			want := uint16(within(n, 0, 65536))
			if got := serial.Low(n); got != want {
				t.Errorf("Low %d: %d, not %d", n, got, want)
			}
		}
	}
}

// P2.3: numbers that go on by steps of less than half a round, to and fro, are extended to numbers that go on by the same steps.
func TestExtendedNumbersGoOn(t *testing.T) {
	steps := []int64{1, 1, 2, -1, 0, 32767, 32767, 32767, -32767, 1, 20000, 20000, 20000, -5, 32766, -32766, 300}
	for _, s := range shorts() {
		start := serial.First(s)
		if serial.Low(start) != s {
			t.Fatalf("First %d: %d", s, start)
		}
		sum, got := start, start
		for range 50 {
			for _, step := range steps {
				sum += step
				got = serial.Extend(got, uint16(sum%65536))
				if got != sum {
					t.Fatalf("from %d, at step %d: %d, not %d", s, step, got, sum)
				}
			}
		}
	}
}

// P2.3: they go on backward too, below 0, as long as the one near which is asked is not below it.
func TestExtendedNumbersGoBack(t *testing.T) {
	sum := serial.First(65535)
	got := sum
	for sum >= 0 {
		sum -= 32767
		got = serial.Extend(got, uint16((sum+65536)%65536))
		if got != sum {
			t.Fatalf("%d, not %d", got, sum)
		}
	}
}

// P2.3: a number near another one is told by its lowest 16 bits, and by no fewer; half a round above, it is another one that is told.
func TestNearIsToldByLow(t *testing.T) {
	for _, near := range nears() {
		for _, far := range []int64{-32768, -32767, -256, -1, 0, 1, 255, 256, 4095, 32766, 32767} {
			if got := serial.Extend(near, serial.Low(near+far)); got != near+far {
				t.Errorf("near %d: %d, not %d", near, got, near+far)
			}
		}
		if got := serial.Extend(near, serial.Low(near+32768)); got != near-32768 {
			t.Errorf("near %d, half a round above: %d", near, got)
		}
	}
}

// P2.3: Ahead tells how far two extended numbers are apart, where that is less than half a round; Newer, which is the greater.
func TestAheadOfExtended(t *testing.T) {
	for _, near := range nears() {
		for _, s := range shorts() {
			n := serial.Extend(near, s)
			if got := serial.Ahead(serial.Low(near), s); int64(got) != n-near {
				t.Errorf("near %d, of %d: %d, not %d", near, s, got, n-near)
			}
			if got := serial.Newer(serial.Low(near), s); got != (n > near) {
				t.Errorf("near %d, of %d: %t", near, s, got)
			}
		}
	}
}

// R1: of numbers outside those that may be asked of, nothing is said but that the calls end, without a panic.
func TestNumbersOutside(t *testing.T) {
	for _, n := range []int64{math.MinInt64, -1<<62 - 1, -65537, -1, 1<<62 + 1, math.MaxInt64} {
		for _, s := range []uint16{0, 1, 32767, 32768, 65535} {
			serial.Extend(n, s)
		}
		serial.Low(n)
	}
}
