package extra_test

import (
	"bytes"
	"slices"
	"testing"

	"manifold/api"
	"manifold/extra"
)

// most is how many bytes a datagram may have, by the document's own number.
const most = 200

// noise tells numbers that are the same at each run, but have no pattern of their own.
func noise() func(below int) int {
	n := uint64(88172645463325252)
	return func(below int) int {
		n ^= n << 13
		n ^= n >> 7
		n ^= n << 17
		return int(n >> 1 % uint64(below))
	}
}

// row tells so many bytes, none like its neighbours.
func row(size int) []byte {
	b := make([]byte, size)
	for k := range b {
		b[k] = byte(37*k + 11)
	}
	return b
}

// item makes an item of a Name and of how many bytes its Data has.
func item(name byte, size int) extra.Item { return extra.Item{Name: name, Data: row(size)} }

// many tells the same item, so many times.
func many(x extra.Item, count int) []extra.Item { return slices.Repeat([]extra.Item{x}, count) }

// same tells whether items are the same ones, in the same order; an empty list and none are (R6).
func same(l, m []extra.Item) bool {
	return slices.EqualFunc(l, m, func(x, y extra.Item) bool { return x.Name == y.Name && bytes.Equal(x.Data, y.Data) })
}

// copied tells the items in memory of their own.
func copied(l []extra.Item) []extra.Item {
	var m []extra.Item
	for _, x := range l {
		m = append(m, extra.Item{Name: x.Name, Data: bytes.Clone(x.Data)})
	}
	return m
}

// bytesSlowly tells what P5.1 says, item by item.
func bytesSlowly(l []extra.Item) ([]byte, api.Errno) {
	var parts [][]byte
	for _, x := range l {
		if x.Name == 0 || x.Name > 14 || len(x.Data) == 0 || len(x.Data) > 16 {
			return nil, api.ErrArg
		}
		parts = append(parts, []byte{byte(16*int(x.Name) + len(x.Data) - 1)}, x.Data)
	}
	b := bytes.Join(parts, nil)
	b = append(b, make([]byte, (4-len(b)%4)%4)...)
	if len(b) > most {
		return nil, api.ErrLong
	}
	return b, api.OK
}

// readSlowly tells what P5.2 says, by places in b.
func readSlowly(b []byte) ([]extra.Item, api.Errno) {
	if len(b) > most {
		return nil, api.ErrLong
	}
	var l []extra.Item
	for at := 0; at < len(b); at++ {
		if b[at] >= 240 {
			return l, api.OK
		}
		if b[at] >= 1 && b[at] <= 15 {
			return nil, api.ErrForm
		}
		if b[at] == 0 {
			continue
		}
		size := int(b[at])%16 + 1
		if at+size >= len(b) {
			return nil, api.ErrShort
		}
		l = append(l, extra.Item{Name: b[at] / 16, Data: b[at+1 : at+1+size]})
		at += size
	}
	return l, api.OK
}

// checkBytes holds Bytes against the slow answer.
func checkBytes(t *testing.T, l []extra.Item) {
	t.Helper()
	want, wrong := bytesSlowly(l)
	if b, e := extra.Bytes(l); !bytes.Equal(b, want) || e != wrong {
		t.Errorf("Bytes(%v): %v, %d; want %v, %d", l, b, e, want, wrong)
	}
}

// checkRead holds Read against the slow answer.
func checkRead(t *testing.T, b []byte) {
	t.Helper()
	want, wrong := readSlowly(b)
	if l, e := extra.Read(b); !same(l, want) || e != wrong {
		t.Errorf("Read(%v): %v, %d; want %v, %d", b, l, e, want, wrong)
	}
}

// P5.1: the bytes of items, in order, filled up to a multiple of four.
func TestBytesOfItems(t *testing.T) {
	for k, c := range []struct {
		l    []extra.Item
		want []byte
	}{
		{nil, nil},
		{[]extra.Item{}, nil},
		{[]extra.Item{{1, []byte{7}}, {2, []byte{8, 9}}}, []byte{16, 7, 33, 8, 9, 0, 0, 0}},
		{[]extra.Item{{2, []byte{8, 9}}, {1, []byte{7}}}, []byte{33, 8, 9, 16, 7, 0, 0, 0}},
		{[]extra.Item{{1, []byte{7}}}, []byte{16, 7, 0, 0}},
		{[]extra.Item{{1, []byte{7, 8}}}, []byte{17, 7, 8, 0}},
		{[]extra.Item{{1, []byte{7, 8, 9}}}, []byte{18, 7, 8, 9}},
		{[]extra.Item{{1, []byte{7, 8, 9, 10}}}, []byte{19, 7, 8, 9, 10, 0, 0, 0}},
		{[]extra.Item{{14, []byte{255}}, {14, []byte{0}}}, []byte{224, 255, 224, 0}},
		{[]extra.Item{{14, row(16)}}, append(append([]byte{239}, row(16)...), 0, 0, 0)},
		{[]extra.Item{{3, []byte{0, 0, 0}}}, []byte{50, 0, 0, 0}},
	} {
		if b, e := extra.Bytes(c.l); !bytes.Equal(b, c.want) || e != api.OK {
			t.Errorf("case %d: %v, %d; want %v", k, b, e, c.want)
		}
	}
}

// P5.1: each Name and each length of Data, those that may not be among them, alone and behind or ahead of others.
func TestEachItem(t *testing.T) {
	for name := range 256 {
		for _, size := range []int{0, 1, 2, 3, 4, 15, 16, 17, 18, 32, 33, 256, 257, 272} {
			x := item(byte(name), size)
			checkBytes(t, []extra.Item{x})
			checkBytes(t, []extra.Item{item(5, 6), x})
			checkBytes(t, []extra.Item{x, item(5, 6)})
		}
	}
}

// P5.1: as many bytes as may be, and one more.
func TestMostBytes(t *testing.T) {
	for k, c := range []struct {
		l    []extra.Item
		size int
		e    api.Errno
	}{
		{many(item(1, 3), 50), 200, api.OK},
		{many(item(1, 1), 100), 200, api.OK},
		{many(item(1, 1), 99), 200, api.OK},
		{append(many(item(1, 16), 11), item(2, 12)), 200, api.OK},
		{append(many(item(1, 16), 11), item(2, 9)), 200, api.OK},
		{append(many(item(1, 16), 11), item(2, 8)), 196, api.OK},
		{append(many(item(1, 16), 11), item(2, 13)), 0, api.ErrLong},
		{many(item(1, 1), 101), 0, api.ErrLong},
		{many(item(14, 16), 12), 0, api.ErrLong},
		{many(item(1, 3), 51), 0, api.ErrLong},
		{many(item(1, 1), 5000), 0, api.ErrLong},
	} {
		if b, e := extra.Bytes(c.l); len(b) != c.size || e != c.e {
			t.Errorf("case %d: %d bytes, %d; want %d, %d", k, len(b), e, c.size, c.e)
		}
		checkBytes(t, c.l)
	}
}

// P5.1, R2: an item that may not be is told ahead of too many bytes, wherever it stands.
func TestArgumentAheadOfLength(t *testing.T) {
	for _, wrong := range []extra.Item{item(0, 1), item(15, 1), item(255, 1), item(1, 0), item(1, 17)} {
		for _, l := range [][]extra.Item{
			append([]extra.Item{wrong}, many(item(1, 16), 20)...),
			append(many(item(1, 16), 20), wrong),
			many(wrong, 300),
		} {
			if b, e := extra.Bytes(l); len(b) != 0 || e != api.ErrArg {
				t.Errorf("%v among %d: %v, %d", wrong, len(l), b, e)
			}
		}
	}
}

// P5.2: items, bytes 0, an end, and what is wrong.
func TestReadItems(t *testing.T) {
	for k, c := range []struct {
		b    []byte
		want []extra.Item
		e    api.Errno
	}{
		{nil, nil, api.OK},
		{[]byte{}, nil, api.OK},
		{[]byte{0}, nil, api.OK},
		{[]byte{16, 7, 33, 8, 9, 0, 0, 0}, []extra.Item{{1, []byte{7}}, {2, []byte{8, 9}}}, api.OK},
		{[]byte{16, 7, 33, 8, 9}, []extra.Item{{1, []byte{7}}, {2, []byte{8, 9}}}, api.OK},
		{[]byte{0, 0, 16, 7, 0, 33, 8, 9, 0}, []extra.Item{{1, []byte{7}}, {2, []byte{8, 9}}}, api.OK},
		{[]byte{18, 0, 240, 5, 16, 0}, []extra.Item{{1, []byte{0, 240, 5}}, {1, []byte{0}}}, api.OK},
		{append([]byte{239}, row(16)...), []extra.Item{{14, row(16)}}, api.OK},
		{[]byte{240}, nil, api.OK},
		{[]byte{255, 1, 2, 3}, nil, api.OK},
		{[]byte{16, 7, 240, 1}, []extra.Item{{1, []byte{7}}}, api.OK},
		{[]byte{16, 7, 241, 33}, []extra.Item{{1, []byte{7}}}, api.OK},
		{[]byte{0, 255, 16, 7}, nil, api.OK},
		{[]byte{1}, nil, api.ErrForm},
		{[]byte{15, 7, 7, 7}, nil, api.ErrForm},
		{[]byte{16, 7, 0, 3}, nil, api.ErrForm},
		{[]byte{16, 7, 3, 33}, nil, api.ErrForm},
		{[]byte{16}, nil, api.ErrShort},
		{[]byte{17, 3}, nil, api.ErrShort},
		{[]byte{33, 240}, nil, api.ErrShort},
		{[]byte{16, 7, 33, 8}, nil, api.ErrShort},
		{[]byte{16, 7, 0, 0, 224}, nil, api.ErrShort},
		{append([]byte{239}, row(15)...), nil, api.ErrShort},
	} {
		if l, e := extra.Read(c.b); !same(l, c.want) || e != c.e {
			t.Errorf("case %d: %v, %d; want %v, %d", k, l, e, c.want, c.e)
		}
	}
}

// P5.2: each first byte, with each number of bytes behind it, alone and behind an item.
func TestReadEachByte(t *testing.T) {
	for first := range 256 {
		for behind := range 20 {
			b := append([]byte{byte(first)}, bytes.Repeat([]byte{240}, behind)...)
			checkRead(t, b)
			checkRead(t, append([]byte{33, 1, 2}, b...))
			b = append([]byte{byte(first)}, make([]byte, behind)...)
			checkRead(t, b)
			checkRead(t, append(b, 7))
		}
	}
}

// P5.2: more than MostBody bytes are told ahead of all.
func TestReadTooMany(t *testing.T) {
	for _, c := range []struct {
		first byte
		wrong api.Errno // of 200 bytes
	}{{0, api.OK}, {1, api.ErrForm}, {15, api.ErrForm}, {240, api.OK}, {255, api.OK}, {239, api.OK}} {
		for _, size := range []int{199, 200, 201, 202, 456, 5000} {
			want := c.wrong
			if size > most {
				want = api.ErrLong
			}
			b := make([]byte, size)
			b[0] = c.first
			if l, e := extra.Read(b); e != want || e != api.OK && len(l) != 0 {
				t.Errorf("%d bytes from %d on: %v, %d; want %d", size, c.first, l, e, want)
			}
		}
	}
	b := append(make([]byte, 199), 33)
	if _, e := extra.Read(b); e != api.ErrShort {
		t.Errorf("200 bytes, the last one an item's first: %d", e)
	}
	if _, e := extra.Read(append(b, 33)); e != api.ErrLong {
		t.Errorf("201 bytes, cut: %d", e)
	}
}

// P5.2, R2: of what is wrong twice, the first one is told.
func TestReadFirstWrong(t *testing.T) {
	for _, c := range []struct {
		b []byte
		e api.Errno
	}{
		{[]byte{5, 33}, api.ErrForm},
		{[]byte{16, 7, 5, 33, 1}, api.ErrForm},
		{[]byte{34, 5, 5}, api.ErrShort},
		{[]byte{240, 5, 33}, api.OK},
	} {
		if _, e := extra.Read(c.b); e != c.e {
			t.Errorf("%v: %d; want %d", c.b, e, c.e)
		}
	}
}

// P5.2: bytes without a pattern.
func TestReadNoise(t *testing.T) {
	next := noise()
	for range 20000 {
		b := make([]byte, next(40))
		for k := range b {
			switch next(3) {
			case 0:
				b[k] = byte(16 * next(16))
			case 1:
				b[k] = byte(16 + next(224))
			case 2:
				b[k] = byte(next(256) * next(2))
			}
		}
		checkRead(t, b)
	}
}

// P5.3: the first item of a Name, and none.
func TestFind(t *testing.T) {
	l := []extra.Item{{1, []byte{7}}, {2, []byte{8, 9}}, {1, []byte{5}}, {0, []byte{3}}, {255, row(40)}, {9, nil}, {9, []byte{1}}, {14, []byte{}}}
	for name := range 256 {
		var want []byte
		is := true
		switch name {
		case 1:
			want = []byte{7}
		case 2:
			want = []byte{8, 9}
		case 0:
			want = []byte{3}
		case 255:
			want = row(40)
		case 9, 14:
		default:
			is = false
		}
		if d, ok := extra.Find(l, byte(name)); !bytes.Equal(d, want) || ok != is {
			t.Errorf("Find %d: %v, %v; want %v, %v", name, d, ok, want, is)
		}
		if d, ok := extra.Find(nil, byte(name)); len(d) != 0 || ok {
			t.Errorf("Find %d of none: %v, %v", name, d, ok)
		}
	}
}

// P5.4: items come back from their bytes, with bytes 0 between them, too.
func TestItemsComeBack(t *testing.T) {
	next := noise()
	for range 5000 {
		var l []extra.Item
		var spread []byte
		for range next(14) {
			x := extra.Item{Name: byte(1 + next(14)), Data: make([]byte, 1+next(16))}
			for k := range x.Data {
				x.Data[k] = byte(next(256) * next(2))
			}
			one, e := extra.Bytes([]extra.Item{x})
			if e != api.OK {
				t.Fatalf("Bytes of %v: %d", x, e)
			}
			l = append(l, x)
			spread = append(append(spread, make([]byte, next(4))...), one...)
		}
		checkBytes(t, l)
		b, e := extra.Bytes(l)
		if e == api.OK {
			if m, wrong := extra.Read(b); !same(l, m) || wrong != api.OK {
				t.Fatalf("%v comes back as %v, %d", l, m, wrong)
			}
		}
		if len(spread) <= most {
			if m, wrong := extra.Read(spread); !same(l, m) || wrong != api.OK {
				t.Fatalf("%v comes back from %v as %v, %d", l, spread, m, wrong)
			}
		}
	}
}

// R3: what is told shares nothing with an argument, nor one part of it with another, and arguments stay.
func TestNothingShared(t *testing.T) {
	l := []extra.Item{item(1, 3), item(2, 16), item(3, 1)}
	kept := copied(l)
	b, _ := extra.Bytes(l)
	want := bytes.Clone(b)
	clear(b)
	if again, _ := extra.Bytes(l); !same(l, kept) || !bytes.Equal(again, want) {
		t.Error("bytes that are told share with what they were made of")
	}

	b = bytes.Clone(want)
	told, _ := extra.Read(b)
	if !bytes.Equal(b, want) {
		t.Error("Read changed its bytes")
	}
	clear(b)
	if !same(told, kept) {
		t.Error("items share with the bytes that they were read from")
	}
	for k := range told {
		clear(told[k].Data)
		_ = append(told[k].Data, 99)
		if k+1 < len(told) && !same(told[k+1:], kept[k+1:]) {
			t.Errorf("item %d shares with those behind it", k)
		}
	}

	d, _ := extra.Find(l, 2)
	clear(d)
	if !same(l, kept) {
		t.Error("data that is found shares with the items")
	}
	short := extra.Item{Name: 4, Data: row(9)[:2]}
	d, _ = extra.Find([]extra.Item{short}, 4)
	_ = append(d, 99)
	if !bytes.Equal(short.Data[:3], row(9)[:3]) {
		t.Error("what stands behind data that is found shares with it")
	}
}

// R4, R5: the same calls answer the same, whatever was called between them.
func TestSameAgain(t *testing.T) {
	l := []extra.Item{item(1, 3), item(2, 16)}
	b, _ := extra.Bytes(l)
	extra.Bytes(many(item(3, 5), 40))
	extra.Read([]byte{3})
	c, e := extra.Bytes(l)
	if !bytes.Equal(b, c) || e != api.OK {
		t.Errorf("%v, then %v, %d", b, c, e)
	}
	first, _ := extra.Read(b)
	if again, e := extra.Read(b); !same(first, again) || e != api.OK {
		t.Errorf("%v, then %v, %d", first, again, e)
	}
}
