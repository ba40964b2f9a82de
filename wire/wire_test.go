package wire_test

import (
	"bytes"
	"math"
	"testing"

	"manifold/api"
	"manifold/wire"
)

// thing is what can be written, and read again: a number of some size, or, of size 0, bytes.
type thing struct {
	size int
	n    uint32
	raw  []byte
}

func (x thing) write(w *wire.Writer) {
	switch x.size {
	case 0:
		w.Raw(x.raw)
	case 1:
		w.Byte(byte(x.n))
	case 2:
		w.Short(uint16(x.n))
	case 3:
		w.Three(x.n)
	case 4:
		w.Num(x.n)
	}
}

// read reads a thing of the same size, or as many bytes.
func (x thing) read(r *wire.Reader) thing {
	switch x.size {
	case 0:
		return thing{raw: r.Raw(len(x.raw))}
	case 1:
		return thing{size: 1, n: uint32(r.Byte())}
	case 2:
		return thing{size: 2, n: uint32(r.Short())}
	case 3:
		return thing{size: 3, n: r.Three()}
	}
	return thing{size: 4, n: r.Num()}
}

// bytes tells its bytes as the chapter's words do, by division.
func (x thing) bytes() []byte {
	if x.size == 0 {
		return bytes.Clone(x.raw)
	}
	b := make([]byte, x.size)
	n := x.n
	for k := x.size - 1; k >= 0; k-- {
		b[k] = byte(n % 256)
		n /= 256
	}
	return b
}

// told is the thing as it is read: of three bytes the lowest 24 bits, of two 16, of one 8.
func (x thing) told() thing {
	n := uint64(x.n)
	if x.size > 0 {
		n %= uint64(1) << (8 * x.size)
	}
	return thing{x.size, uint32(n), x.raw}
}

func same(a, b thing) bool {
	return a.size == b.size && a.n == b.n && bytes.Equal(a.raw, b.raw)
}

// none is what a reader tells that has gone wrong.
func (x thing) none() thing { return thing{size: x.size} }

// things are of all sizes, with numbers at the ends and such as have other bytes in each place.
func things() []thing {
	var l []thing
	for size := 1; size <= 4; size++ {
		for _, n := range []uint32{0, 1, 127, 128, 255, 256, 258, 65535, 65536, 1<<24 - 1, 1 << 24, 0x01020304, 0xf1e2d3c4, 1<<31 - 1, 1 << 31, math.MaxUint32} {
			l = append(l, thing{size: size, n: n})
		}
	}
	for _, raw := range [][]byte{nil, {}, {0}, {7}, {7, 8}, {255, 0, 255}, bytes.Repeat([]byte{1, 2, 3, 4, 5}, 41)} {
		l = append(l, thing{raw: raw})
	}
	return l
}

// rows are lists of things: each two of them, and some long rows without a pattern.
func rows() [][]thing {
	l := things()
	var out [][]thing
	for _, a := range l {
		for _, b := range l {
			out = append(out, []thing{a, b})
		}
	}
	// A row that is the same at each run.
	n := uint64(88172645463325252)
	for long := range 30 {
		var row []thing
		for range long {
			n ^= n << 13
			n ^= n >> 7
			n ^= n << 17
			row = append(row, l[n%uint64(len(l))])
		}
		out = append(out, row)
	}
	return out
}

func bytesOf(row []thing) []byte {
	var b []byte
	for _, x := range row {
		b = append(b, x.bytes()...)
	}
	return b
}

func written(row []thing) []byte {
	var w wire.Writer
	for _, x := range row {
		x.write(&w)
	}
	return w.Bytes()
}

func check(t *testing.T, what string, got, want any) {
	t.Helper()
	if got != want {
		t.Errorf("%s: %v, not %v", what, got, want)
	}
}

func checkBytes(t *testing.T, what string, got, want []byte) {
	t.Helper()
	if !bytes.Equal(got, want) {
		t.Errorf("%s: %v, not %v", what, got, want)
	}
}

// P3.1: a zero writer has written nothing, and nothing by no bytes.
func TestZeroWriter(t *testing.T) {
	var w wire.Writer
	checkBytes(t, "zero", w.Bytes(), nil)
	w.Raw(nil)
	w.Raw([]byte{})
	checkBytes(t, "no bytes", w.Bytes(), nil)
	w.Byte(0)
	checkBytes(t, "then a byte", w.Bytes(), []byte{0})
	copied := wire.Writer{}
	copied.Byte(3)
	checkBytes(t, "another one", copied.Bytes(), []byte{3})
	checkBytes(t, "the first one", w.Bytes(), []byte{0})
}

// P3.1: each number alone, the highest byte first; of three bytes the lowest 24 bits.
func TestWriterNumbers(t *testing.T) {
	for _, c := range []struct {
		size int
		n    uint32
		want []byte
	}{
		{1, 0, []byte{0}},
		{1, 1, []byte{1}},
		{1, 128, []byte{128}},
		{1, 255, []byte{255}},
		{2, 0, []byte{0, 0}},
		{2, 1, []byte{0, 1}},
		{2, 255, []byte{0, 255}},
		{2, 256, []byte{1, 0}},
		{2, 258, []byte{1, 2}},
		{2, 65535, []byte{255, 255}},
		{3, 0, []byte{0, 0, 0}},
		{3, 258, []byte{0, 1, 2}},
		{3, 65536, []byte{1, 0, 0}},
		{3, 1<<24 - 1, []byte{255, 255, 255}},
		{3, 1 << 24, []byte{0, 0, 0}},
		{3, 0x01020304, []byte{2, 3, 4}},
		{3, math.MaxUint32, []byte{255, 255, 255}},
		{4, 0, []byte{0, 0, 0, 0}},
		{4, 5, []byte{0, 0, 0, 5}},
		{4, 1 << 24, []byte{1, 0, 0, 0}},
		{4, 0x01020304, []byte{1, 2, 3, 4}},
		{4, math.MaxUint32, []byte{255, 255, 255, 255}},
	} {
		got := written([]thing{{size: c.size, n: c.n}})
		if !bytes.Equal(got, c.want) {
			t.Errorf("%d of %d bytes: %v, not %v", c.n, c.size, got, c.want)
		}
	}
}

// P3.1: what is written stands behind what was written, however much that is.
func TestWriterBehind(t *testing.T) {
	var w wire.Writer
	w.Three(258)
	w.Raw([]byte{7})
	checkBytes(t, "the chapter's example", w.Bytes(), []byte{0, 1, 2, 7})
	for _, row := range rows() {
		if got, want := written(row), bytesOf(row); !bytes.Equal(got, want) {
			t.Fatalf("%v: %v, not %v", row, got, want)
		}
	}
	var want []byte
	var long wire.Writer
	for k := range 20000 {
		long.Short(uint16(k))
		want = append(want, byte(k/256), byte(k%256))
	}
	if !bytes.Equal(long.Bytes(), want) {
		t.Error("many numbers")
	}
}

// P3.1 and R3: what was told is no part of the writer, nor is what was handed in.
func TestWriterSharesNothing(t *testing.T) {
	var w wire.Writer
	in := []byte{1, 2, 3}
	w.Raw(in)
	checkBytes(t, "handed in", in, []byte{1, 2, 3})
	in[0] = 99
	checkBytes(t, "after a change of what was handed in", w.Bytes(), []byte{1, 2, 3})
	first, second := w.Bytes(), w.Bytes()
	first[1] = 99
	_ = append(first, 50, 51, 52)
	checkBytes(t, "told twice", second, []byte{1, 2, 3})
	checkBytes(t, "after a change of what was told", w.Bytes(), []byte{1, 2, 3})
	w.Num(4)
	w.Byte(5)
	checkBytes(t, "told ahead of more", second, []byte{1, 2, 3})
	checkBytes(t, "more", w.Bytes(), []byte{1, 2, 3, 0, 0, 0, 4, 5})
	// Room that the first append leaves must not be handed out: each of these has its own.
	for range 20 {
		told := w.Bytes()
		room := told[:cap(told)]
		for k := range room {
			room[k] = 99
		}
		before := w.Bytes()
		w.Byte(6)
		checkBytes(t, "in order", w.Bytes(), append(before, 6))
	}
	w.Raw(w.Bytes())
	all := w.Bytes()
	checkBytes(t, "its own bytes once more", all[len(all)/2:], all[:len(all)/2])
}

// P3.2: each number alone, from bytes that are just as many.
func TestReaderNumbers(t *testing.T) {
	for _, x := range things() {
		b := x.bytes()
		r := wire.New(b)
		check(t, "left ahead", r.Left(), len(b))
		if got, want := x.read(r), x.told(); !same(got, want) {
			t.Errorf("of %v: %v, not %v", b, got, want)
		}
		check(t, "left", r.Left(), 0)
		check(t, "end", r.End(), api.OK)
	}
}

// P3.2: one behind the other, and how many bytes are left at each of them.
func TestReaderInOrder(t *testing.T) {
	r := wire.New([]byte{255, 1, 2, 254, 3, 4, 253, 5, 6, 7, 8, 9, 10})
	check(t, "left of all", r.Left(), 13)
	check(t, "byte", r.Byte(), byte(255))
	check(t, "left", r.Left(), 12)
	check(t, "short", r.Short(), uint16(258))
	check(t, "left", r.Left(), 10)
	check(t, "three", r.Three(), uint32(0xfe0304))
	check(t, "left", r.Left(), 7)
	check(t, "num", r.Num(), uint32(0xfd050607))
	check(t, "left", r.Left(), 3)
	checkBytes(t, "no bytes", r.Raw(0), nil)
	check(t, "left", r.Left(), 3)
	checkBytes(t, "bytes", r.Raw(2), []byte{8, 9})
	check(t, "left", r.Left(), 1)
	check(t, "end ahead of the last one", r.End(), api.ErrLong)
	checkBytes(t, "the last one", r.Raw(1), []byte{10})
	check(t, "left", r.Left(), 0)
	check(t, "end", r.End(), api.OK)
}

// P3.2: no bytes, as none and as an empty list (R6).
func TestReaderOfNoBytes(t *testing.T) {
	for _, b := range [][]byte{nil, {}} {
		r := wire.New(b)
		check(t, "left", r.Left(), 0)
		check(t, "end", r.End(), api.OK)
		checkBytes(t, "no bytes", r.Raw(0), nil)
		check(t, "end after no bytes", r.End(), api.OK)
		for _, x := range []thing{{size: 1}, {size: 2}, {size: 3}, {size: 4}, {raw: []byte{0}}} {
			s := wire.New(b)
			if got := x.read(s); !same(got, x.none()) {
				t.Errorf("of no bytes: %v", got)
			}
			check(t, "short", s.End(), api.ErrShort)
		}
	}
}

// checkGone holds a reader that went wrong to telling nothing any more.
func checkGone(t *testing.T, r *wire.Reader, e api.Errno) {
	t.Helper()
	check(t, "end", r.End(), e)
	check(t, "left", r.Left(), 0)
	check(t, "byte", r.Byte(), byte(0))
	check(t, "short", r.Short(), uint16(0))
	check(t, "three", r.Three(), uint32(0))
	check(t, "num", r.Num(), uint32(0))
	checkBytes(t, "no bytes", r.Raw(0), nil)
	checkBytes(t, "bytes", r.Raw(1), nil)
	checkBytes(t, "many bytes", r.Raw(math.MaxInt), nil)
	for later := api.OK; later <= api.ErrSeen; later++ {
		r.Wrong(later)
		check(t, "end after another thing", r.End(), e)
	}
	check(t, "left at last", r.Left(), 0)
	check(t, "end at last", r.End(), e)
}

// P3.2: fewer bytes than are asked for: it goes wrong, though fewer could be taken still.
func TestReaderShort(t *testing.T) {
	ask := []thing{{size: 1}, {size: 2}, {size: 3}, {size: 4}, {raw: make([]byte, 1)}, {raw: make([]byte, 2)}, {raw: make([]byte, 200)}}
	for _, x := range ask {
		need := len(x.bytes())
		for have := range need {
			for _, ahead := range []int{0, 1, 5} {
				r := wire.New(bytes.Repeat([]byte{255}, ahead+have))
				r.Raw(ahead)
				if got := x.read(r); !same(got, x.none()) {
					t.Errorf("%d bytes for %d: %v", have, need, got)
				}
				checkGone(t, r, api.ErrShort)
			}
		}
		r := wire.New(bytes.Repeat([]byte{255}, need+1))
		x.read(r)
		check(t, "one left", r.Left(), 1)
		check(t, "one too many", r.End(), api.ErrLong)
	}
	for _, n := range []int{4, 5, 256, 1 << 16, 1 << 32, math.MaxInt - 1, math.MaxInt} {
		r := wire.New([]byte{1, 2, 3})
		checkBytes(t, "too many", r.Raw(n), nil)
		checkGone(t, r, api.ErrShort)
	}
}

// P3.2: what goes wrong by a call, at each number, ahead of all, amid, and behind all; by OK nothing does.
func TestReaderWrong(t *testing.T) {
	wrongs := []api.Errno{
		api.ErrArg, api.ErrForm, api.ErrShort, api.ErrLong, api.ErrNone, api.ErrTwice, api.ErrClosed, api.ErrFull, api.ErrLate, api.ErrSeen,
		-1, 11, math.MinInt, math.MaxInt,
	}
	for _, e := range wrongs {
		for taken := range 6 {
			r := wire.New([]byte{1, 2, 3, 4, 5})
			r.Raw(taken)
			r.Wrong(api.OK)
			check(t, "left after OK", r.Left(), 5-taken)
			r.Wrong(e)
			checkGone(t, r, e)
		}
	}
	r := wire.New([]byte{1, 2, 3})
	r.Wrong(api.OK)
	check(t, "after OK", r.Short(), uint16(258))
	r.Wrong(api.OK)
	check(t, "end after OK", r.End(), api.ErrLong)
	check(t, "after OK again", r.Byte(), byte(3))
	r.Wrong(api.OK)
	check(t, "OK at the end", r.End(), api.OK)
}

// P3.2: nothing changes by Left or End, so that bytes that are left can still be taken; that they are left doesn't go wrong.
func TestLeftAndEndChangeNothing(t *testing.T) {
	r := wire.New([]byte{1, 2, 3, 4, 5})
	for want := range byte(5) {
		for range 3 {
			check(t, "left", r.Left(), 5-int(want))
			check(t, "end", r.End(), api.ErrLong)
		}
		check(t, "byte", r.Byte(), want+1)
	}
	for range 3 {
		check(t, "left", r.Left(), 0)
		check(t, "end", r.End(), api.OK)
	}
	r.Byte()
	for range 3 {
		checkGone(t, r, api.ErrShort)
	}
	s := wire.New([]byte{1})
	check(t, "end", s.End(), api.ErrLong)
	s.Wrong(api.ErrForm)
	checkGone(t, s, api.ErrForm)
}

// P3.2 and R3: a reader has a copy of what it reads, and what is taken is no part of what is left.
func TestReaderSharesNothing(t *testing.T) {
	in := []byte{1, 2, 3, 4, 5, 6, 7}
	r := wire.New(in)
	in[0], in[6] = 99, 99
	first := r.Raw(2)
	checkBytes(t, "after a change of what was handed in", first, []byte{1, 2})
	first[0], first[1] = 50, 51
	first = append(first, 52, 53, 54)
	check(t, "behind what was changed", r.Byte(), byte(3))
	second := r.Raw(2)
	second = append(second, 60, 61)
	third := r.Raw(2)
	checkBytes(t, "the last ones", third, []byte{6, 7})
	_ = append(r.Raw(0), 70)
	third[0] = 80
	checkBytes(t, "the first ones", first, []byte{50, 51, 52, 53, 54})
	checkBytes(t, "the next ones", second, []byte{4, 5, 60, 61})
	checkBytes(t, "what was handed in", in, []byte{99, 2, 3, 4, 5, 6, 99})
	check(t, "end", r.End(), api.OK)

	again := []byte{1, 2, 3}
	one, two := wire.New(again), wire.New(again)
	one.Raw(3)[1] = 99
	checkBytes(t, "another reader of the same", two.Raw(3), []byte{1, 2, 3})
	nothing := wire.New(again)
	_ = append(nothing.Raw(0), 99)
	check(t, "behind no bytes", nothing.Byte(), byte(1))
}

// P3.3: what is written is read, with nothing left, and with as much left as stands behind it.
func TestWrittenIsRead(t *testing.T) {
	for _, row := range rows() {
		b := written(row)
		for _, more := range []int{0, 1, 7} {
			r := wire.New(append(bytes.Clone(b), bytes.Repeat([]byte{255}, more)...))
			for k, x := range row {
				if got, want := x.read(r), x.told(); !same(got, want) {
					t.Fatalf("number %d of %v is read as %v", k, row, got)
				}
			}
			want := api.OK
			if more > 0 {
				want = api.ErrLong
			}
			if r.Left() != more || r.End() != want {
				t.Fatalf("%v: %d left, error %d", row, r.Left(), r.End())
			}
		}
	}
}

// P3.3: bytes that are cut anywhere are read up to the thing that is cut; that one goes wrong, and all behind it is none.
func TestCutGoesWrong(t *testing.T) {
	for _, row := range rows() {
		b := written(row)
		for cut := range b {
			checkCut(t, row, b[:cut])
		}
	}
}

func checkCut(t *testing.T, row []thing, b []byte) {
	t.Helper()
	r := wire.New(b)
	end := 0
	for k, x := range row {
		end += len(x.bytes())
		want := x.told()
		if end > len(b) {
			want = x.none()
		}
		if got := x.read(r); !same(got, want) {
			t.Fatalf("number %d of %v, cut at %d, is read as %v", k, row, len(b), got)
		}
	}
	if r.Left() != 0 || r.End() != api.ErrShort {
		t.Fatalf("%v, cut at %d: %d left, error %d", row, len(b), r.Left(), r.End())
	}
}

// R4 and R5: readers and writers keep nothing from one another.
func TestApart(t *testing.T) {
	one, two := wire.New([]byte{1, 2}), wire.New([]byte{3, 4})
	one.Wrong(api.ErrForm)
	check(t, "another reader", two.Short(), uint16(772))
	check(t, "its end", two.End(), api.OK)
	check(t, "the first one", one.End(), api.ErrForm)
	var v, w wire.Writer
	v.Byte(1)
	w.Byte(2)
	v.Byte(3)
	checkBytes(t, "one writer", v.Bytes(), []byte{1, 3})
	checkBytes(t, "the other one", w.Bytes(), []byte{2})
}
