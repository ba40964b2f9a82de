package probe_test

import (
	"bytes"
	"math"
	"testing"

	"manifold/api"
	"manifold/probe"
)

// none is what a number is where it isn't told, by the document's own number.
const none = -1

// bare is the description in which nothing is told.
var bare = probe.Desc{Picture: none, Base: none, Tier: none, Key: none}

// full is one in which all is told, by as many bytes as may be.
var full = probe.Desc{Loose: true, Start: true, Part: 5, Picture: 30000, Wide: true, Base: 201, Tier: 2, Sync: true, Key: 19}

// noise tells numbers that are the same at each run, but have no pattern of their own.
func noise() func(below int) int {
	n := uint64(88172645463325252)
	return func(below int) int {
		n ^= n << 13
		n ^= n >> 7
		n ^= n << 17
		return int(n >> 1 % uint64(below))
	}
}

// around tells each number from -3 to some behind most, and such as would be right if they lost their upper bits.
func around(most int) []int {
	l := []int{math.MinInt, math.MinInt + 1, -1 << 32, -1 << 16, -1 << 8, 1 << 16, 1<<16 + 5, 1 << 32, 1<<32 + 5, 1<<32 - 1, math.MaxInt - 1, math.MaxInt}
	for n := -3; n <= most+5; n++ {
		l = append(l, n)
	}
	return l
}

// edges tells few numbers, those that may be and those next to them.
func edges(most int) []int { return []int{-2, none, 0, 1, most / 3, most, most + 1} }

// rightSlowly tells whether a description may be, by the chapter's words.
func rightSlowly(d probe.Desc) bool {
	in := func(n, most int) bool { return n == none || n >= 0 && n <= most }
	most := 127
	if d.Wide {
		most = 32767
	}
	if d.Part > 7 || !in(d.Picture, most) || !in(d.Base, 255) || !in(d.Tier, 3) || !in(d.Key, 31) {
		return false
	}
	return !(d.Wide && d.Picture == none) && !(d.Sync && d.Tier == none)
}

// bytesSlowly tells the bytes of a description that may be, sum by sum as the chapter's words tell them.
func bytesSlowly(d probe.Desc) []byte {
	first, second, last := int(d.Part), 0, 0
	var behind []byte
	if d.Picture != none {
		second += 128
		if d.Wide {
			behind = append(behind, byte((32768+d.Picture)/256), byte(d.Picture%256))
		} else {
			behind = append(behind, byte(d.Picture))
		}
	}
	if d.Base != none {
		second += 64
		behind = append(behind, byte(d.Base))
	}
	if d.Tier != none {
		second += 32
		last += 64 * d.Tier
	}
	if d.Sync {
		last += 32
	}
	if d.Key != none {
		second += 16
		last += d.Key
	}
	if d.Tier != none || d.Key != none {
		behind = append(behind, byte(last))
	}
	if d.Loose {
		first += 32
	}
	if d.Start {
		first += 16
	}
	if second == 0 {
		return []byte{byte(first)}
	}
	return append([]byte{byte(first + 128), byte(second)}, behind...)
}

// readSlowly tells what P6.2 says, by places in b.
func readSlowly(b []byte) (probe.Desc, int, api.Errno) {
	if len(b) == 0 {
		return probe.Desc{}, 0, api.ErrShort
	}
	d := bare
	d.Part, d.Start, d.Loose = b[0]%8, b[0]/16%2 == 1, b[0]/32%2 == 1
	if b[0] < 128 {
		return d, 1, api.OK
	}
	if len(b) == 1 {
		return probe.Desc{}, 0, api.ErrShort
	}
	second := b[1]
	// Bytes 0 stand for those that are missing: whether there are any is asked at the end.
	c := append(bytes.Clone(b), 0, 0, 0, 0, 0)
	at := 2
	if second >= 128 {
		d.Picture = int(c[at])
		if c[at] >= 128 {
			d.Wide = true
			d.Picture = 256*int(c[at]-128) + int(c[at+1])
			at++
		}
		at++
	}
	if second/64%2 == 1 {
		d.Base = int(c[at])
		at++
	}
	if second/32%2 == 1 {
		d.Tier, d.Sync = int(c[at]/64), c[at]/32%2 == 1
	}
	if second/16%2 == 1 {
		d.Key = int(c[at] % 32)
	}
	if second/16%4 != 0 {
		at++
	}
	if at > len(b) {
		return probe.Desc{}, 0, api.ErrShort
	}
	return d, at, api.OK
}

// beginsSlowly tells what P6.3 says.
func beginsSlowly(b []byte) bool {
	d, n, e := readSlowly(b)
	return e == api.OK && d.Start && d.Part == 0 && len(b) > n && b[n]%2 == 0
}

// checkDesc holds Right and Bytes against the slow answers, and a description that may be against what its bytes tell.
func checkDesc(t *testing.T, d probe.Desc) {
	t.Helper()
	right := rightSlowly(d)
	if got := probe.Right(d); got != right {
		t.Fatalf("Right(%+v): %v", d, got)
	}
	b, e := probe.Bytes(d)
	if !right {
		if e != api.ErrArg || len(b) != 0 {
			t.Fatalf("Bytes(%+v): %v, %d; want none, %d", d, b, e, api.ErrArg)
		}
		return
	}
	if want := bytesSlowly(d); !bytes.Equal(b, want) || e != api.OK {
		t.Fatalf("Bytes(%+v): %v, %d; want %v", d, b, e, want)
	}
	if back, n, e := probe.Read(b); back != d || n != len(b) || e != api.OK {
		t.Fatalf("%+v comes back from %v as %+v, %d, %d", d, b, back, n, e)
	}
}

// checkRead holds Read and Begins against the slow answers.
func checkRead(t *testing.T, b []byte) {
	t.Helper()
	want, size, wrong := readSlowly(b)
	if d, n, e := probe.Read(b); d != want || n != size || e != wrong {
		t.Fatalf("Read(%v): %+v, %d, %d; want %+v, %d, %d", b, d, n, e, want, size, wrong)
	}
	if got := probe.Begins(b); got != beginsSlowly(b) {
		t.Fatalf("Begins(%v): %v", b, got)
	}
}

// P6.1: bytes of descriptions, written down one by one.
func TestBytesOfDescriptions(t *testing.T) {
	for k, c := range []struct {
		d    probe.Desc
		want []byte
	}{
		{bare, []byte{0}},
		{probe.Desc{Part: 7, Picture: none, Base: none, Tier: none, Key: none}, []byte{7}},
		{probe.Desc{Loose: true, Picture: none, Base: none, Tier: none, Key: none}, []byte{32}},
		{probe.Desc{Start: true, Picture: none, Base: none, Tier: none, Key: none}, []byte{16}},
		{probe.Desc{Loose: true, Start: true, Part: 7, Picture: none, Base: none, Tier: none, Key: none}, []byte{55}},
		{probe.Desc{Start: true, Picture: 300, Wide: true, Base: 7, Tier: none, Key: none}, []byte{144, 192, 129, 44, 7}},
		{probe.Desc{}, []byte{128, 240, 0, 0, 0}},
		{probe.Desc{Picture: 0, Base: none, Tier: none, Key: none}, []byte{128, 128, 0}},
		{probe.Desc{Picture: 127, Base: none, Tier: none, Key: none}, []byte{128, 128, 127}},
		{probe.Desc{Picture: 0, Wide: true, Base: none, Tier: none, Key: none}, []byte{128, 128, 128, 0}},
		{probe.Desc{Picture: 127, Wide: true, Base: none, Tier: none, Key: none}, []byte{128, 128, 128, 127}},
		{probe.Desc{Picture: 128, Wide: true, Base: none, Tier: none, Key: none}, []byte{128, 128, 128, 128}},
		{probe.Desc{Picture: 32767, Wide: true, Base: none, Tier: none, Key: none}, []byte{128, 128, 255, 255}},
		{probe.Desc{Picture: none, Base: 0, Tier: none, Key: none}, []byte{128, 64, 0}},
		{probe.Desc{Picture: none, Base: 255, Tier: none, Key: none}, []byte{128, 64, 255}},
		{probe.Desc{Picture: none, Base: none, Tier: 0, Key: none}, []byte{128, 32, 0}},
		{probe.Desc{Picture: none, Base: none, Tier: 0, Sync: true, Key: none}, []byte{128, 32, 32}},
		{probe.Desc{Picture: none, Base: none, Tier: 3, Sync: true, Key: none}, []byte{128, 32, 224}},
		{probe.Desc{Picture: none, Base: none, Tier: none, Key: 0}, []byte{128, 16, 0}},
		{probe.Desc{Picture: none, Base: none, Tier: none, Key: 31}, []byte{128, 16, 31}},
		{probe.Desc{Picture: none, Base: none, Tier: 1, Key: 2}, []byte{128, 48, 66}},
		{probe.Desc{Picture: none, Base: 9, Tier: none, Key: 2}, []byte{128, 80, 9, 2}},
		{probe.Desc{Picture: 9, Base: none, Tier: 3, Key: none}, []byte{128, 160, 9, 192}},
		{full, []byte{181, 240, 245, 48, 201, 179}},
	} {
		if b, e := probe.Bytes(c.d); !bytes.Equal(b, c.want) || e != api.OK || !probe.Right(c.d) {
			t.Errorf("case %d: %v, %d; want %v", k, b, e, c.want)
		}
		if d, n, e := probe.Read(c.want); d != c.d || n != len(c.want) || e != api.OK {
			t.Errorf("case %d comes back as %+v, %d, %d", k, d, n, e)
		}
	}
}

// P6.1: what may not be, written down one by one; each is right but for one thing.
func TestWhatMayNotBe(t *testing.T) {
	for k, change := range []func(d *probe.Desc){
		func(d *probe.Desc) { d.Part = 8 },
		func(d *probe.Desc) { d.Part = 255 },
		func(d *probe.Desc) { d.Picture = -2 },
		func(d *probe.Desc) { d.Picture, d.Wide = 128, false },
		func(d *probe.Desc) { d.Picture, d.Wide = 32768, true },
		func(d *probe.Desc) { d.Picture, d.Wide = -2, true },
		func(d *probe.Desc) { d.Picture, d.Wide = none, true },
		func(d *probe.Desc) { d.Base = -2 },
		func(d *probe.Desc) { d.Base = 256 },
		func(d *probe.Desc) { d.Tier = -2 },
		func(d *probe.Desc) { d.Tier = 4 },
		func(d *probe.Desc) { d.Tier, d.Sync = none, true },
		func(d *probe.Desc) { d.Key = -2 },
		func(d *probe.Desc) { d.Key = 32 },
	} {
		for _, d := range []probe.Desc{bare, full, {}} {
			change(&d)
			if b, e := probe.Bytes(d); len(b) != 0 || e != api.ErrArg || probe.Right(d) {
				t.Errorf("change %d: %+v: %v, %d", k, d, b, e)
			}
		}
	}
}

// P6.1 and P6.4: each number alone, through its range and behind it, where nothing else is told and where all is.
func TestEachNumber(t *testing.T) {
	for _, d := range []probe.Desc{bare, full, {}} {
		for part := range 256 {
			x := d
			x.Part = byte(part)
			for _, loose := range []bool{false, true} {
				for _, start := range []bool{false, true} {
					x.Loose, x.Start = loose, start
					checkDesc(t, x)
				}
			}
		}
		for _, n := range around(32767) {
			x := d
			x.Picture, x.Wide = n, false
			checkDesc(t, x)
			x.Wide = true
			checkDesc(t, x)
		}
		for _, n := range around(255) {
			x := d
			x.Base = n
			checkDesc(t, x)
		}
		for _, n := range around(3) {
			x := d
			x.Tier, x.Sync = n, false
			checkDesc(t, x)
			x.Sync = true
			checkDesc(t, x)
		}
		for _, n := range around(31) {
			x := d
			x.Key = n
			checkDesc(t, x)
		}
	}
}

// P6.1 and P6.4: the edges of all numbers, each with each.
func TestEdgesTogether(t *testing.T) {
	next := noise()
	for _, picture := range append(edges(127), edges(32767)...) {
		for _, base := range edges(255) {
			for _, tier := range edges(3) {
				for _, key := range edges(31) {
					for which := range 4 {
						checkDesc(t, probe.Desc{
							Loose: next(2) == 0, Start: next(2) == 0, Part: byte(next(8)),
							Picture: picture, Wide: which%2 == 1, Base: base, Tier: tier, Sync: which/2 == 1, Key: key,
						})
					}
				}
			}
		}
	}
}

// P6.2: bytes and what they tell, written down one by one.
func TestReadOfBytes(t *testing.T) {
	short := probe.Desc{}
	for k, c := range []struct {
		b []byte
		d probe.Desc
		n int
		e api.Errno
	}{
		{nil, short, 0, api.ErrShort},
		{[]byte{}, short, 0, api.ErrShort},
		{[]byte{0}, bare, 1, api.OK},
		{[]byte{0, 255, 255}, bare, 1, api.OK},
		{[]byte{64 + 8}, bare, 1, api.OK},
		{[]byte{127}, probe.Desc{Loose: true, Start: true, Part: 7, Picture: none, Base: none, Tier: none, Key: none}, 1, api.OK},
		{[]byte{128}, short, 0, api.ErrShort},
		{[]byte{183}, short, 0, api.ErrShort},
		{[]byte{128, 0}, bare, 2, api.OK},
		{[]byte{128, 15}, bare, 2, api.OK},
		{[]byte{255, 15, 9}, probe.Desc{Loose: true, Start: true, Part: 7, Picture: none, Base: none, Tier: none, Key: none}, 2, api.OK},
		{[]byte{144, 192, 129, 44, 7}, probe.Desc{Start: true, Picture: 300, Wide: true, Base: 7, Tier: none, Key: none}, 5, api.OK},
		{[]byte{144, 192, 129, 44}, short, 0, api.ErrShort},
		{[]byte{144, 192, 129}, short, 0, api.ErrShort},
		{[]byte{144, 192}, short, 0, api.ErrShort},
		{[]byte{128, 128, 127}, probe.Desc{Picture: 127, Base: none, Tier: none, Key: none}, 3, api.OK},
		{[]byte{128, 128, 128}, short, 0, api.ErrShort},
		{[]byte{128, 128, 128, 1}, probe.Desc{Picture: 1, Wide: true, Base: none, Tier: none, Key: none}, 4, api.OK},
		{[]byte{128, 64, 200, 9}, probe.Desc{Picture: none, Base: 200, Tier: none, Key: none}, 3, api.OK},
		{[]byte{128, 64}, short, 0, api.ErrShort},
		{[]byte{128, 32}, short, 0, api.ErrShort},
		{[]byte{128, 16}, short, 0, api.ErrShort},
		{[]byte{128, 48}, short, 0, api.ErrShort},
		{[]byte{128, 32, 31}, probe.Desc{Picture: none, Base: none, Tier: 0, Key: none}, 3, api.OK},
		{[]byte{128, 32, 255}, probe.Desc{Picture: none, Base: none, Tier: 3, Sync: true, Key: none}, 3, api.OK},
		{[]byte{128, 16, 224}, probe.Desc{Picture: none, Base: none, Tier: none, Key: 0}, 3, api.OK},
		{[]byte{128, 16, 255}, probe.Desc{Picture: none, Base: none, Tier: none, Key: 31}, 3, api.OK},
		{[]byte{128, 48, 97}, probe.Desc{Picture: none, Base: none, Tier: 1, Sync: true, Key: 1}, 3, api.OK},
		{[]byte{181, 240, 245, 48, 201, 179}, full, 6, api.OK},
		{[]byte{253, 255, 245, 48, 201, 179, 128, 240}, full, 6, api.OK},
		{[]byte{181, 240, 245, 48, 201}, short, 0, api.ErrShort},
	} {
		if d, n, e := probe.Read(c.b); d != c.d || n != c.n || e != c.e {
			t.Errorf("case %d: %+v, %d, %d; want %+v, %d, %d", k, d, n, e, c.d, c.n, c.e)
		}
	}
}

// P6.2 and P6.3: each first byte with each second one, and what may stand behind them, cut at each place.
func TestEachBeginning(t *testing.T) {
	tails := [][]byte{{200, 2, 7, 97, 4, 5}, {5, 254, 255, 1, 0, 1}, {255, 255, 255, 255, 255, 255}, {0, 0, 0, 0, 0, 0}}
	for first := range 256 {
		for second := range 256 {
			for _, tail := range tails {
				b := append([]byte{byte(first), byte(second)}, tail...)
				for cut := range len(b) + 1 {
					checkRead(t, b[:cut])
				}
			}
		}
	}
}

// P6.2 and P6.3: bytes without a pattern.
func TestReadNoise(t *testing.T) {
	next := noise()
	for range 50000 {
		b := make([]byte, next(10))
		for k := range b {
			b[k] = byte(next(256))
		}
		if len(b) > 0 && next(2) == 0 {
			b[0] = byte(128 + 16 + 32*next(2))
		}
		checkRead(t, b)
	}
}

// P6.2 and P6.3: what stands far behind a description changes nothing, not even where it is more than a datagram has.
func TestLongPayloads(t *testing.T) {
	for _, d := range []probe.Desc{bare, full, {Start: true}, {Start: true, Picture: none, Base: none, Tier: none, Key: none}} {
		b, _ := probe.Bytes(d)
		for _, size := range []int{1, 7, 193, 200, 201, 256, 70000} {
			for _, fill := range []byte{0, 255} {
				long := append(bytes.Clone(b), bytes.Repeat([]byte{fill}, size)...)
				checkRead(t, long)
				if got, n, e := probe.Read(long); got != d || n != len(b) || e != api.OK {
					t.Errorf("%v and %d bytes %d: %+v, %d, %d", b, size, fill, got, n, e)
				}
			}
		}
	}
}

// P6.3: payloads that begin a keyframe, and such as don't, written down one by one.
func TestBegins(t *testing.T) {
	for k, c := range []struct {
		b    []byte
		want bool
	}{
		{nil, false},
		{[]byte{}, false},
		{[]byte{16}, false},
		{[]byte{16, 0}, true},
		{[]byte{16, 254}, true},
		{[]byte{16, 254, 1, 1}, true},
		{[]byte{16, 1}, false},
		{[]byte{16, 255, 0, 0}, false},
		{[]byte{0, 0}, false},
		{[]byte{32, 0}, false},
		{[]byte{48, 0}, true},
		{[]byte{64 + 16 + 8, 8}, true},
		{[]byte{17, 0}, false},
		{[]byte{18, 0}, false},
		{[]byte{20, 0}, false},
		{[]byte{23, 0}, false},
		{[]byte{144}, false},
		{[]byte{144, 0}, false},
		{[]byte{144, 0, 0}, true},
		{[]byte{144, 0, 1}, false},
		{[]byte{144, 15, 2}, true},
		{[]byte{144, 128, 2}, false},
		{[]byte{144, 128, 1, 2}, true},
		{[]byte{144, 128, 128, 2}, false},
		{[]byte{144, 128, 128, 1, 2}, true},
		{[]byte{144, 128, 128, 2, 1}, false},
		{[]byte{128, 128, 128, 1, 2}, false},
		{[]byte{145, 128, 128, 1, 2}, false},
		{[]byte{144, 240, 255, 255, 255, 255}, false},
		{[]byte{144, 240, 255, 255, 255, 255, 2}, true},
		{[]byte{144, 240, 254, 254, 254, 254, 3}, false},
		{[]byte{144, 48, 2}, false},
		{[]byte{144, 64, 2}, false},
	} {
		if got := probe.Begins(c.b); got != c.want {
			t.Errorf("case %d, %v: %v", k, c.b, got)
		}
	}
}

// P6.4: what is read may be, and is written again as the bytes that it was read from, but for the bits that are passed over.
func TestReadIsWrittenAgain(t *testing.T) {
	next := noise()
	for range 50000 {
		b := make([]byte, 6)
		for k := range b {
			b[k] = byte(next(256))
		}
		d, n, e := probe.Read(b)
		if e != api.OK || !probe.Right(d) {
			t.Fatalf("Read(%v): %+v, %d, %d", b, d, n, e)
		}
		// Those bits are taken off; what tells nothing more has one byte only.
		c := bytes.Clone(b[:n])
		c[0] &= 255 - 64 - 8
		if n > 1 {
			c[1] &= 240
			switch c[1] & 48 {
			case 32:
				c[n-1] &= 224
			case 16:
				c[n-1] &= 31
			}
			if c[1] == 0 {
				c = []byte{c[0] - 128}
			}
		}
		if again, e := probe.Bytes(d); !bytes.Equal(again, c) || e != api.OK {
			t.Fatalf("%v, read as %+v, is written as %v, %d", b, d, again, e)
		}
	}
}

// R3: arguments stay, whatever stands behind them in their memory, and answers are memory of their own.
func TestNothingShared(t *testing.T) {
	whole := []byte{181, 240, 245, 48, 201, 179, 4, 5, 6, 7}
	for cut := range len(whole) + 1 {
		b := bytes.Clone(whole)
		probe.Read(b[:cut])
		probe.Begins(b[:cut])
		if !bytes.Equal(b, whole) {
			t.Fatalf("of %v, cut at %d, %v is left", whole, cut, b)
		}
	}
	one, _ := probe.Bytes(full)
	clear(one)
	if two, e := probe.Bytes(full); !bytes.Equal(two, whole[:6]) || e != api.OK {
		t.Errorf("a change of one answer is seen in another: %v, %d", two, e)
	}
}

// R4, R5: the same calls answer the same, whatever was called between them.
func TestSameAgain(t *testing.T) {
	for range 2 {
		checkDesc(t, full)
		checkDesc(t, bare)
		checkDesc(t, probe.Desc{Part: 8})
		checkRead(t, []byte{181, 240, 245, 48, 201, 179, 4})
		checkRead(t, []byte{181, 240, 245})
		checkRead(t, []byte{16, 4})
	}
}
