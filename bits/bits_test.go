package bits_test

import (
	"bytes"
	"math"
	"math/big"
	"testing"

	"manifold/bits"
)

// numbers are such as have few bits, many, and bits at the ends and amid.
func numbers() []uint64 {
	l := []uint64{
		0, 1, 2, 3, 127, 128, 180, 255, 256, 258,
		1<<31 - 1, 1 << 31, 1 << 32, 1<<63 - 1, 1 << 63, math.MaxUint64,
		0x0123456789abcdef, 0xfedcba9876543210, 0xaaaaaaaaaaaaaaaa, 0x5555555555555555,
	}
	// A row that is the same at each run, but has no pattern of its own.
	n := uint64(88172645463325252)
	for range 12 {
		n ^= n << 13
		n ^= n >> 7
		n ^= n << 17
		l = append(l, n)
	}
	return l
}

// sizes are all that may be, the ones next to them, and such as would go round.
// None is merely large: a size that is wrongly let through must cost a few bytes, or fail at once, not take gigabytes.
func sizes() []int {
	l := []int{math.MinInt, math.MinInt + 1, -1 << 32, -64, -8, -2, -1, 1 << 12, math.MaxInt - 1, math.MaxInt}
	for size := range 131 {
		l = append(l, size)
	}
	return l
}

// place tells the bits that a place has, one by one; none, if it may not be.
func place(at, size int) map[int]bool {
	l := map[int]bool{}
	if at < 0 || at > 63 || size < 0 || size > 64 || at+size > 64 {
		return l
	}
	for k := range size {
		l[at+k] = true
	}
	return l
}

func bit(n uint64, k int) uint64 { return n / (uint64(1) << k) % 2 }

// fieldSlowly tells what P1.1 says of Field, bit by bit.
func fieldSlowly(n uint64, at, size int) uint64 {
	var sum uint64
	for k := range place(at, size) {
		sum += bit(n, k) << (k - at)
	}
	return sum
}

// laySlowly tells what P1.1 says of Lay, bit by bit.
func laySlowly(n uint64, at, size int, v uint64) uint64 {
	in := place(at, size)
	var sum uint64
	for k := range 64 {
		if in[k] {
			sum += bit(v, k-at) << k
		} else {
			sum += bit(n, k) << k
		}
	}
	return sum
}

// signedSlowly tells what P1.2 says of a size from 1 to 64, in numbers without an end.
func signedSlowly(n uint64, size int) int64 {
	round := new(big.Int).Lsh(big.NewInt(1), uint(size))
	m := new(big.Int).Mod(new(big.Int).SetUint64(n), round)
	if m.Bit(size-1) == 1 {
		m.Sub(m, round)
	}
	return m.Int64()
}

// P1.1: ordinary places, and the edges that the document names.
func TestFieldOfPlaces(t *testing.T) {
	const all = math.MaxUint64
	for _, c := range []struct {
		n        uint64
		at, size int
		want     uint64
	}{
		{180, 2, 4, 13},
		{180, 0, 8, 180},
		{180, 2, 1, 1},
		{180, 3, 1, 0},
		{0x0123456789abcdef, 32, 16, 0x4567},
		{all, 0, 0, 0},
		{all, 63, 0, 0},
		{all, 0, 1, 1},
		{all, 63, 1, 1},
		{1 << 63, 63, 1, 1},
		{all >> 1, 63, 1, 0},
		{all, 0, 63, all >> 1},
		{all, 1, 63, all >> 1},
		{1, 1, 63, 0},
		{all, 0, 64, all},
		{0xfedcba9876543210, 0, 64, 0xfedcba9876543210},
	} {
		if got := bits.Field(c.n, c.at, c.size); got != c.want {
			t.Errorf("Field(%d, %d, %d) = %d, not %d", c.n, c.at, c.size, got, c.want)
		}
	}
}

// P1.1: what is laid by ordinary numbers, by ones with bits above the place, and at the edges.
func TestLayOfPlaces(t *testing.T) {
	const all = math.MaxUint64
	for _, c := range []struct {
		n        uint64
		at, size int
		v        uint64
		want     uint64
	}{
		{180, 2, 4, 2, 136},
		{0, 2, 4, 13, 52},
		{0, 2, 4, 16 + 13, 52},
		{0, 0, 1, all, 1},
		{all, 0, 1, 0, all - 1},
		{all, 0, 1, 2, all - 1},
		{0, 63, 1, all, 1 << 63},
		{all, 63, 1, 0, all >> 1},
		{all, 63, 1, 2, all >> 1},
		{0, 0, 63, all, all >> 1},
		{1, 1, 63, all, all},
		{all, 1, 63, 0, 1},
		{180, 0, 64, 7, 7},
		{180, 0, 64, all, all},
		{180, 0, 0, all, 180},
		{180, 63, 0, all, 180},
	} {
		if got := bits.Lay(c.n, c.at, c.size, c.v); got != c.want {
			t.Errorf("Lay(%d, %d, %d, %d) = %d, not %d", c.n, c.at, c.size, c.v, got, c.want)
		}
	}
}

// P1.1: places that may not be.
func TestPlacesThatMayNotBe(t *testing.T) {
	const all = math.MaxUint64
	for _, p := range [][2]int{
		{-1, 0}, {-1, 1}, {-1, 2}, {-64, 64}, {-1, 65}, {math.MinInt, 0}, {math.MinInt, 1}, {math.MinInt, math.MaxInt},
		{64, 0}, {64, 1}, {64, -1}, {65, 0}, {65, -1}, {127, -63}, {128, 0}, {1 << 32, 0}, {math.MaxInt, 0}, {math.MaxInt, 1}, {math.MaxInt, math.MinInt},
		{0, -1}, {0, 65}, {0, math.MinInt}, {0, math.MaxInt}, {0, 1 << 32}, {0, 1<<32 + 1},
		{1, 64}, {1, -1}, {1, math.MaxInt}, {32, 33}, {60, 5}, {63, 2}, {63, -1}, {63, 64}, {63, math.MaxInt},
	} {
		for _, n := range []uint64{all, 180, 0} {
			if got := bits.Field(n, p[0], p[1]); got != 0 {
				t.Errorf("Field(%d, %d, %d) = %d, not 0", n, p[0], p[1], got)
			}
			if got := bits.Lay(n, p[0], p[1], ^n); got != n {
				t.Errorf("Lay(%d, %d, %d, %d) = %d, not the first", n, p[0], p[1], ^n, got)
			}
		}
	}
}

// P1.1 and P1.4, of all places that may be and many that may not: what is told is what bit by bit is told;
// what is laid is there; nothing else is changed.
func TestFieldAndLayBitByBit(t *testing.T) {
	l := numbers()
	for at := -3; at <= 67; at++ {
		for size := -3; size <= 67; size++ {
			in := place(at, size)
			for i, n := range l {
				v := l[len(l)-1-i]
				if got, want := bits.Field(n, at, size), fieldSlowly(n, at, size); got != want {
					t.Fatalf("Field(%d, %d, %d) = %d, not %d", n, at, size, got, want)
				}
				laid := bits.Lay(n, at, size, v)
				if want := laySlowly(n, at, size, v); laid != want {
					t.Fatalf("Lay(%d, %d, %d, %d) = %d, not %d", n, at, size, v, laid, want)
				}
				if got, want := bits.Field(laid, at, size), bits.Field(v, 0, len(in)); got != want {
					t.Fatalf("what Lay(%d, %d, %d, %d) laid is read as %d, not %d", n, at, size, v, got, want)
				}
				for k := range 64 {
					if !in[k] && bits.Field(laid, k, 1) != bits.Field(n, k, 1) {
						t.Fatalf("Lay(%d, %d, %d, %d) changed bit %d", n, at, size, v, k)
					}
				}
				if back := bits.Lay(laid, at, size, bits.Field(n, at, size)); back != n {
					t.Fatalf("Lay(%d, %d, %d, %d), taken back, is %d", n, at, size, v, back)
				}
			}
		}
	}
}

// P1.2: ordinary numbers, and the edges of each kind of size.
func TestSignedOfSizes(t *testing.T) {
	const all = math.MaxUint64
	for _, c := range []struct {
		n    uint64
		size int
		want int64
	}{
		{255, 8, -1},
		{127, 8, 127},
		{128, 8, -128},
		{256 + 127, 8, 127},
		{256 + 128, 8, -128},
		{all - 255, 8, 0},
		{255, 9, 255},
		{0, 1, 0},
		{1, 1, -1},
		{2, 1, 0},
		{3, 1, -1},
		{1, 2, 1},
		{2, 2, -2},
		{0xffffff, 24, -1},
		{0x7fffff, 24, 1<<23 - 1},
		{0x800000, 24, -1 << 23},
		{1<<62 - 1, 63, 1<<62 - 1},
		{1 << 62, 63, -1 << 62},
		{1 << 63, 63, 0},
		{all, 63, -1},
		{all >> 1, 64, math.MaxInt64},
		{1 << 63, 64, math.MinInt64},
		{all, 64, -1},
		{7, 64, 7},
	} {
		if got := bits.Signed(c.n, c.size); got != c.want {
			t.Errorf("Signed(%d, %d) = %d, not %d", c.n, c.size, got, c.want)
		}
	}
}

// P1.2, of all sizes: of 1 to 64 what numbers without an end tell, of another one 0.
func TestSignedOfAllSizes(t *testing.T) {
	for _, size := range sizes() {
		for _, n := range numbers() {
			want := int64(0)
			if size >= 1 && size <= 64 {
				want = signedSlowly(n, size)
			}
			if got := bits.Signed(n, size); got != want {
				t.Fatalf("Signed(%d, %d) = %d, not %d", n, size, got, want)
			}
		}
	}
}

// P1.4: a number with a sign is the one whose bits were laid.
func TestSignedIsReadBack(t *testing.T) {
	for size := 1; size <= 64; size++ {
		top := int64(uint64(1)<<(size-1) - 1)
		for _, v := range []int64{0, -1, top, -top - 1, top / 3, -top / 3} {
			for at := 0; at <= 64-size; at++ {
				n := bits.Lay(0x5555555555555555, at, size, uint64(v))
				if got := bits.Signed(bits.Field(n, at, size), size); got != v {
					t.Fatalf("%d, laid at %d with %d bits, is %d", v, at, size, got)
				}
			}
		}
	}
}

// P1.3: no bytes, a few, eight, and more than eight.
func TestNumberOfBytes(t *testing.T) {
	for _, c := range []struct {
		b    []byte
		want uint64
	}{
		{nil, 0},
		{[]byte{}, 0},
		{[]byte{0}, 0},
		{[]byte{7}, 7},
		{[]byte{255}, 255},
		{[]byte{1, 2}, 258},
		{[]byte{2, 1}, 513},
		{[]byte{0, 1, 2}, 258},
		{[]byte{1, 2, 3}, 0x010203},
		{[]byte{255, 0, 0, 0}, 255 << 24},
		{[]byte{1, 2, 3, 4, 5, 6, 7}, 0x01020304050607},
		{[]byte{255, 254, 253, 252, 251, 250, 249, 248}, 0xfffefdfcfbfaf9f8},
		{[]byte{9, 1, 2, 3, 4, 5, 6, 7, 8}, 0x0102030405060708},
		{[]byte{9, 0, 0, 0, 0, 0, 0, 0, 0}, 0},
		{append(bytes.Repeat([]byte{255}, 92), 0, 0, 0, 0, 0, 0, 0, 1), 1},
	} {
		before := bytes.Clone(c.b)
		if got := bits.Number(c.b); got != c.want {
			t.Errorf("Number(%v) = %d, not %d", c.b, got, c.want)
		}
		if !bytes.Equal(before, c.b) {
			t.Errorf("Number changed %v to %v", before, c.b)
		}
	}
}

// P1.3: all sizes that may be, the ones next to them, and such as would go round.
func TestBytesOfSizes(t *testing.T) {
	const n = 0xf1e2d3c4b5a69788
	whole := []byte{0xf1, 0xe2, 0xd3, 0xc4, 0xb5, 0xa6, 0x97, 0x88}
	for _, size := range sizes() {
		var want []byte
		if size >= 0 && size <= 8 {
			want = whole[8-size:]
		}
		if got := bits.Bytes(n, size); !bytes.Equal(got, want) {
			t.Fatalf("Bytes(%d, %d) has %d bytes, %v at its end, not %v", uint64(n), size, len(got), got[max(0, len(got)-8):], want)
		}
	}
	for _, c := range []struct {
		n    uint64
		size int
		want []byte
	}{
		{0, 0, nil},
		{0, 1, []byte{0}},
		{0, 8, make([]byte, 8)},
		{258, 1, []byte{2}},
		{258, 2, []byte{1, 2}},
		{258, 3, []byte{0, 1, 2}},
		{math.MaxUint64, 8, bytes.Repeat([]byte{255}, 8)},
		{1 << 63, 8, []byte{128, 0, 0, 0, 0, 0, 0, 0}},
		{1 << 56, 7, make([]byte, 7)},
	} {
		if got := bits.Bytes(c.n, c.size); !bytes.Equal(got, c.want) {
			t.Errorf("Bytes(%d, %d) = %v, not %v", c.n, c.size, got, c.want)
		}
	}
}

// P1.3: an answer is memory of its own.
func TestBytesShareNothing(t *testing.T) {
	for size := range 9 {
		one, two := bits.Bytes(math.MaxUint64, size), bits.Bytes(math.MaxUint64, size)
		clear(one)
		if !bytes.Equal(two, bytes.Repeat([]byte{255}, size)) {
			t.Errorf("of size %d a change of one answer is seen in another: %v", size, two)
		}
	}
}

// P1.4: what is written as bytes is read, whatever stands ahead of the last eight bytes; and bytes are written again.
func TestBytesAreReadBack(t *testing.T) {
	for _, n := range numbers() {
		for size := range 9 {
			b := bits.Bytes(n, size)
			want := bits.Field(n, 0, 8*size)
			if got := bits.Number(b); got != want {
				t.Fatalf("%d, written as %v, is read as %d", n, b, got)
			}
			if again := bits.Bytes(bits.Number(b), size); !bytes.Equal(again, b) {
				t.Fatalf("%v, read, is written as %v", b, again)
			}
		}
		for ahead := range 10 {
			long := append(bytes.Repeat([]byte{165}, ahead), bits.Bytes(n, 8)...)
			if got := bits.Number(long); got != n {
				t.Fatalf("%d, written behind %d bytes, is read as %d", n, ahead, got)
			}
		}
	}
}
