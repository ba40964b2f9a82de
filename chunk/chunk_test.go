package chunk_test

import (
	"bytes"
	"slices"
	"testing"

	"manifold/api"
	"manifold/chunk"
)

// most is how many bytes a datagram may have, by the document's own number.
const most = 200

// noise tells numbers that are the same at each run, but have no pattern of their own.
func noise() func(below int) int {
	n := uint64(88172645463325252)
	return func(below int) int {
		n ^= n << 13
		n ^= n >> 7
		n ^= n << 17
		return int(n >> 1 % uint64(below))
	}
}

// row tells so many bytes, none like its neighbours.
func row(size int) []byte {
	b := make([]byte, size)
	for k := range b {
		b[k] = byte(37*k + 11)
	}
	return b
}

// of makes a chunk of a Count, a Type, and of how many bytes its Body has.
func of(count, kind byte, size int) chunk.Chunk {
	return chunk.Chunk{Count: count, Type: kind, Body: row(size)}
}

// many tells the same chunk, so many times.
func many(c chunk.Chunk, count int) []chunk.Chunk { return slices.Repeat([]chunk.Chunk{c}, count) }

// behind tells the lists, one behind the other, in memory of its own.
func behind(lists ...[]byte) []byte { return bytes.Join(lists, nil) }

// same tells whether chunks are the same ones, in the same order; an empty list and none are (R6).
func same(l, m []chunk.Chunk) bool {
	return slices.EqualFunc(l, m, func(c, d chunk.Chunk) bool {
		return c.Count == d.Count && c.Type == d.Type && bytes.Equal(c.Body, d.Body)
	})
}

// copied tells the chunks in memory of their own.
func copied(l []chunk.Chunk) []chunk.Chunk {
	var m []chunk.Chunk
	for _, c := range l {
		m = append(m, chunk.Chunk{Count: c.Count, Type: c.Type, Body: bytes.Clone(c.Body)})
	}
	return m
}

// rightSlowly tells whether a chunk may be, by the chapter's words.
func rightSlowly(c chunk.Chunk) bool {
	return c.Count < 32 && len(c.Body)%4 == 0 && len(c.Body) <= most-4
}

// joinSlowly tells what P7.1 says, chunk by chunk.
func joinSlowly(l []chunk.Chunk) ([]byte, api.Errno) {
	var parts [][]byte
	for _, c := range l {
		if !rightSlowly(c) {
			return nil, api.ErrArg
		}
		units := len(c.Body) / 4
		parts = append(parts, []byte{128 + c.Count, c.Type, byte(units / 256), byte(units % 256)}, c.Body)
	}
	b := bytes.Join(parts, nil)
	if len(b) > most {
		return nil, api.ErrLong
	}
	return b, api.OK
}

// splitSlowly tells what P7.2 says, by places in b.
func splitSlowly(b []byte) ([]chunk.Chunk, api.Errno) {
	if len(b) > most {
		return nil, api.ErrLong
	}
	if len(b) == 0 {
		return nil, api.ErrShort
	}
	var l []chunk.Chunk
	for at := 0; at < len(b); {
		if len(b)-at < 4 {
			return nil, api.ErrShort
		}
		first := b[at]
		if first < 128 || first > 191 {
			return nil, api.ErrForm
		}
		end := at + 4 + 4*(256*int(b[at+2])+int(b[at+3]))
		if end > len(b) {
			return nil, api.ErrShort
		}
		body := b[at+4 : end]
		count := first - 128
		if first >= 160 {
			count = first - 160
			if end < len(b) || len(body) == 0 {
				return nil, api.ErrForm
			}
			no := int(body[len(body)-1])
			if no == 0 || no%4 != 0 || no > len(body) {
				return nil, api.ErrForm
			}
			body = body[:len(body)-no]
		}
		l = append(l, chunk.Chunk{Count: count, Type: b[at+1], Body: body})
		at = end
	}
	return l, api.OK
}

// checkJoin holds Right and Join against the slow answers, and what comes back from bytes against the chunks.
func checkJoin(t *testing.T, l []chunk.Chunk) {
	t.Helper()
	for _, c := range l {
		if got := chunk.Right(c); got != rightSlowly(c) {
			t.Fatalf("Right of Count %d and %d bytes: %v", c.Count, len(c.Body), got)
		}
	}
	want, wrong := joinSlowly(l)
	b, e := chunk.Join(l)
	if !bytes.Equal(b, want) || e != wrong {
		t.Fatalf("Join(%v): %v, %d; want %v, %d", l, b, e, want, wrong)
	}
	if e == api.OK && len(l) > 0 {
		if m, e := chunk.Split(b); !same(l, m) || e != api.OK {
			t.Fatalf("%v comes back from %v as %v, %d", l, b, m, e)
		}
	}
}

// checkSplit holds Split against the slow answer.
func checkSplit(t *testing.T, b []byte) {
	t.Helper()
	want, wrong := splitSlowly(b)
	if l, e := chunk.Split(b); !same(l, want) || e != wrong {
		t.Fatalf("Split(%v): %v, %d; want %v, %d", b, l, e, want, wrong)
	}
}

// P7.1: bytes of chunks, written down one by one; and P7.2: they are read.
func TestBytesOfChunks(t *testing.T) {
	for k, c := range []struct {
		l    []chunk.Chunk
		want []byte
	}{
		{[]chunk.Chunk{{}}, []byte{128, 0, 0, 0}},
		{[]chunk.Chunk{{Body: []byte{}}}, []byte{128, 0, 0, 0}},
		{[]chunk.Chunk{{1, 200, []byte{1, 2, 3, 4}}}, []byte{129, 200, 0, 1, 1, 2, 3, 4}},
		{[]chunk.Chunk{{31, 255, nil}}, []byte{159, 255, 0, 0}},
		{[]chunk.Chunk{{16, 1, []byte{0, 0, 0, 0, 255, 255, 255, 255}}}, []byte{144, 1, 0, 2, 0, 0, 0, 0, 255, 255, 255, 255}},
		{[]chunk.Chunk{{1, 200, []byte{1, 2, 3, 4}}, {31, 203, nil}}, []byte{129, 200, 0, 1, 1, 2, 3, 4, 159, 203, 0, 0}},
		{[]chunk.Chunk{{31, 203, nil}, {1, 200, []byte{1, 2, 3, 4}}}, []byte{159, 203, 0, 0, 129, 200, 0, 1, 1, 2, 3, 4}},
		{[]chunk.Chunk{{2, 3, nil}, {2, 3, nil}, {4, 5, nil}}, []byte{130, 3, 0, 0, 130, 3, 0, 0, 132, 5, 0, 0}},
		{[]chunk.Chunk{{5, 6, row(196)}}, behind([]byte{133, 6, 0, 49}, row(196))},
	} {
		if b, e := chunk.Join(c.l); !bytes.Equal(b, c.want) || e != api.OK {
			t.Errorf("case %d: %v, %d; want %v", k, b, e, c.want)
		}
		if l, e := chunk.Split(c.want); !same(l, c.l) || e != api.OK {
			t.Errorf("case %d comes back as %v, %d", k, l, e)
		}
	}
	for _, l := range [][]chunk.Chunk{nil, {}} {
		if b, e := chunk.Join(l); len(b) != 0 || e != api.OK {
			t.Errorf("bytes of no chunks: %v, %d", b, e)
		}
	}
}

// P7.1: what may be and what may not, written down one by one.
func TestRight(t *testing.T) {
	for k, c := range []struct {
		c    chunk.Chunk
		want bool
	}{
		{chunk.Chunk{}, true},
		{of(31, 0, 4), true},
		{of(32, 0, 4), false},
		{of(64, 0, 4), false},
		{of(128, 0, 4), false},
		{of(255, 0, 4), false},
		{of(0, 255, 4), true},
		{of(0, 0, 1), false},
		{of(0, 0, 2), false},
		{of(0, 0, 3), false},
		{of(0, 0, 5), false},
		{of(31, 255, 196), true},
		{of(0, 0, 195), false},
		{of(0, 0, 197), false},
		{of(0, 0, 198), false},
		{of(0, 0, 199), false},
		{of(0, 0, 200), false},
		{of(0, 0, 204), false},
		{of(0, 0, 256), false},
		{of(0, 0, 1<<16), false},
		{of(0, 0, 1<<18), false},
		{of(0, 0, 1<<18+4), false},
	} {
		if got := chunk.Right(c.c); got != c.want {
			t.Errorf("case %d: %v", k, got)
		}
		if _, e := chunk.Join([]chunk.Chunk{c.c}); (e == api.OK) != c.want || e != api.OK && e != api.ErrArg {
			t.Errorf("case %d, joined: %d", k, e)
		}
	}
}

// P7.1 and P7.3: each Count with each length of a Body, those that may not be among them; each Type; alone and beside others.
func TestEachChunk(t *testing.T) {
	for count := range 256 {
		for size := range 210 {
			checkJoin(t, []chunk.Chunk{of(byte(count), byte(7*count+size), size)})
		}
		for kind := range 256 {
			c := of(byte(count), byte(kind), 4*(kind%3))
			checkJoin(t, []chunk.Chunk{c, of(3, 9, 8)})
			checkJoin(t, []chunk.Chunk{of(3, 9, 8), c})
		}
	}
}

// P7.1: as many bytes as may be, and more.
func TestMostBytes(t *testing.T) {
	for k, c := range []struct {
		l    []chunk.Chunk
		size int
		e    api.Errno
	}{
		{many(of(1, 2, 0), 49), 196, api.OK},
		{many(of(1, 2, 0), 50), 200, api.OK},
		{many(of(1, 2, 0), 51), 0, api.ErrLong},
		{many(of(1, 2, 4), 25), 200, api.OK},
		{many(of(1, 2, 4), 26), 0, api.ErrLong},
		{many(of(1, 2, 96), 2), 200, api.OK},
		{[]chunk.Chunk{of(1, 2, 96), of(1, 2, 100)}, 0, api.ErrLong},
		{[]chunk.Chunk{of(1, 2, 188), of(1, 2, 4)}, 200, api.OK},
		{[]chunk.Chunk{of(1, 2, 192), of(1, 2, 0)}, 200, api.OK},
		{[]chunk.Chunk{of(1, 2, 0), of(1, 2, 192)}, 200, api.OK},
		{[]chunk.Chunk{of(1, 2, 196), of(1, 2, 0)}, 0, api.ErrLong},
		{[]chunk.Chunk{of(1, 2, 0), of(1, 2, 196)}, 0, api.ErrLong},
		{many(of(1, 2, 196), 2), 0, api.ErrLong},
		{many(of(1, 2, 196), 5000), 0, api.ErrLong},
		{many(of(1, 2, 0), 1<<16), 0, api.ErrLong},
	} {
		if b, e := chunk.Join(c.l); len(b) != c.size || e != c.e {
			t.Errorf("case %d: %d bytes, %d; want %d, %d", k, len(b), e, c.size, c.e)
		}
		checkJoin(t, c.l)
	}
}

// P7.1, R2: a chunk that may not be is told ahead of too many bytes, wherever it stands.
func TestArgumentAheadOfLength(t *testing.T) {
	for _, wrong := range []chunk.Chunk{of(32, 0, 0), of(255, 0, 4), of(0, 0, 1), of(0, 0, 198), of(0, 0, 200), of(0, 0, 5000)} {
		for _, l := range [][]chunk.Chunk{
			{wrong},
			append([]chunk.Chunk{wrong}, many(of(1, 2, 96), 3)...),
			append(many(of(1, 2, 96), 3), wrong),
			append(append(many(of(1, 2, 196), 2), wrong), of(1, 2, 4)),
			many(wrong, 300),
		} {
			if b, e := chunk.Join(l); len(b) != 0 || e != api.ErrArg {
				t.Errorf("Count %d and %d bytes among %d: %v, %d", wrong.Count, len(wrong.Body), len(l), b, e)
			}
		}
	}
}

// P7.2: what is wrong, written down one by one; of what is wrong twice the first one is told (R2).
func TestSplitOfWrongBytes(t *testing.T) {
	for k, c := range []struct {
		b []byte
		e api.Errno
	}{
		{nil, api.ErrShort},
		{[]byte{}, api.ErrShort},
		{[]byte{128}, api.ErrShort},
		{[]byte{128, 0, 0}, api.ErrShort},
		{[]byte{0, 0, 0}, api.ErrShort},
		{[]byte{255, 255, 255}, api.ErrShort},
		{[]byte{160, 0, 0}, api.ErrShort},
		{[]byte{0, 0, 0, 0}, api.ErrForm},
		{[]byte{127, 0, 0, 0}, api.ErrForm},
		{[]byte{192, 0, 0, 0}, api.ErrForm},
		{[]byte{255, 0, 0, 0}, api.ErrForm},
		{[]byte{127, 0, 0, 1}, api.ErrForm},
		{[]byte{192, 0, 255, 255}, api.ErrForm},
		{[]byte{128, 0, 0, 1}, api.ErrShort},
		{[]byte{128, 0, 0, 1, 9, 9, 9}, api.ErrShort},
		{[]byte{128, 0, 1, 0}, api.ErrShort},
		{[]byte{128, 0, 1, 0, 9, 9, 9, 9}, api.ErrShort},
		{[]byte{128, 0, 255, 255, 9, 9, 9, 9}, api.ErrShort},
		{[]byte{160, 0, 0, 1, 9, 9, 4}, api.ErrShort},
		{[]byte{160, 0, 0, 2, 9, 9, 9, 0}, api.ErrShort},
		{[]byte{128, 0, 0, 0, 128}, api.ErrShort},
		{[]byte{128, 0, 0, 0, 0, 0, 0}, api.ErrShort},
		{[]byte{128, 0, 0, 0, 0, 0, 0, 0}, api.ErrForm},
		{[]byte{128, 0, 0, 0, 128, 0, 0, 1, 7}, api.ErrShort},
		{[]byte{0, 0, 0, 0, 128, 0, 0, 9}, api.ErrForm},
		{[]byte{128, 0, 0, 3, 128, 0, 0, 0, 0, 0, 0, 0}, api.ErrShort},
		{[]byte{160, 0, 0, 0}, api.ErrForm},
		{[]byte{160, 0, 0, 0, 4}, api.ErrForm},
		{[]byte{160, 0, 0, 0, 128, 0, 0, 0}, api.ErrForm},
		{[]byte{160, 0, 0, 1, 0, 0, 0, 4, 9}, api.ErrForm},
		{[]byte{160, 0, 0, 1, 0, 0, 0, 4, 128, 0, 0, 0}, api.ErrForm},
		{[]byte{160, 0, 0, 1, 0, 0, 0, 4, 160, 0, 0, 1, 0, 0, 0, 4}, api.ErrForm},
		{[]byte{160, 0, 0, 1, 9, 9, 9, 0}, api.ErrForm},
		{[]byte{160, 0, 0, 1, 9, 9, 9, 1}, api.ErrForm},
		{[]byte{160, 0, 0, 1, 9, 9, 9, 2}, api.ErrForm},
		{[]byte{160, 0, 0, 1, 9, 9, 9, 3}, api.ErrForm},
		{[]byte{160, 0, 0, 1, 9, 9, 9, 5}, api.ErrForm},
		{[]byte{160, 0, 0, 1, 9, 9, 9, 8}, api.ErrForm},
		{[]byte{160, 0, 0, 1, 9, 9, 9, 252}, api.ErrForm},
		{[]byte{160, 0, 0, 2, 9, 9, 9, 4, 9, 9, 9, 12}, api.ErrForm},
	} {
		if l, e := chunk.Split(c.b); len(l) != 0 || e != c.e {
			t.Errorf("case %d: %v, %d; want %d", k, l, e, c.e)
		}
	}
}

// P7.2: padded chunks, written down one by one.
func TestSplitOfPadded(t *testing.T) {
	for k, c := range []struct {
		b    []byte
		want []chunk.Chunk
	}{
		{[]byte{160, 0, 0, 1, 1, 2, 3, 4}, []chunk.Chunk{{}}},
		{[]byte{191, 255, 0, 1, 1, 2, 3, 4}, []chunk.Chunk{{31, 255, nil}}},
		{[]byte{161, 200, 0, 2, 1, 2, 3, 4, 5, 6, 7, 4}, []chunk.Chunk{{1, 200, []byte{1, 2, 3, 4}}}},
		{[]byte{161, 200, 0, 2, 1, 2, 3, 4, 5, 6, 7, 8}, []chunk.Chunk{{1, 200, nil}}},
		{[]byte{129, 200, 0, 2, 1, 2, 3, 4, 5, 6, 7, 8}, []chunk.Chunk{{1, 200, []byte{1, 2, 3, 4, 5, 6, 7, 8}}}},
		{[]byte{128, 203, 0, 0, 161, 200, 0, 1, 1, 2, 3, 4}, []chunk.Chunk{{0, 203, nil}, {1, 200, nil}}},
		{[]byte{129, 203, 0, 1, 9, 9, 9, 4, 161, 200, 0, 2, 5, 6, 7, 8, 0, 0, 0, 4}, []chunk.Chunk{{1, 203, []byte{9, 9, 9, 4}}, {1, 200, []byte{5, 6, 7, 8}}}},
		{behind([]byte{160, 1, 0, 49}, row(195), []byte{196}), []chunk.Chunk{{0, 1, nil}}},
		{behind([]byte{160, 1, 0, 49}, row(195), []byte{4}), []chunk.Chunk{{0, 1, row(192)}}},
	} {
		if l, e := chunk.Split(c.b); !same(l, c.want) || e != api.OK {
			t.Errorf("case %d: %v, %d; want %v", k, l, e, c.want)
		}
	}
}

// P7.2: each number that a padded chunk's last byte may be, with each length of what stands for its Body, alone, behind another chunk, and ahead of one.
func TestEachPadding(t *testing.T) {
	for units := range 50 {
		for last := range 256 {
			b := behind([]byte{160, 7, 0, byte(units)}, row(4*units))
			b[len(b)-1] = byte(last)
			checkSplit(t, b)
			checkSplit(t, behind([]byte{129, 8, 0, 1, 1, 2, 3, 4}, b))
			checkSplit(t, behind(b, []byte{129, 8, 0, 0}))
			checkSplit(t, behind(b, []byte{byte(last)}))
			checkSplit(t, b[:len(b)-1])
		}
	}
}

// P7.2: each first byte, with each number of bytes that are told and that are there, alone and behind a chunk.
func TestEachFirstByte(t *testing.T) {
	for first := range 256 {
		for told := range 4 {
			for are := range 20 {
				b := behind([]byte{byte(first), byte(13 * first), 0, byte(told)}, bytes.Repeat([]byte{4}, are))
				checkSplit(t, b)
				checkSplit(t, behind([]byte{130, 8, 0, 1, 1, 2, 3, 4}, b))
				checkSplit(t, b[:min(are, 4)])
			}
		}
	}
}

// P7.2: more than MostBody bytes are told ahead of all.
func TestSplitTooMany(t *testing.T) {
	for _, first := range []byte{0, 128, 129, 160, 191, 192, 255} {
		for _, size := range []int{196, 199, 200, 201, 202, 204, 456, 5000, 1 << 18} {
			b := make([]byte, size)
			b[0], b[3] = first, byte(min(size, most)/4-1)
			checkSplit(t, b)
			if _, e := chunk.Split(b); size > most && e != api.ErrLong {
				t.Errorf("%d bytes from %d on: %d", size, first, e)
			}
		}
	}
	for count := range 60 {
		b := bytes.Repeat([]byte{131, 9, 0, 0}, count)
		want, wrong := many(of(3, 9, 0), count), api.OK
		switch {
		case count == 0:
			wrong = api.ErrShort
		case count > 50:
			want, wrong = nil, api.ErrLong
		}
		if l, e := chunk.Split(b); !same(l, want) || e != wrong {
			t.Errorf("%d chunks of four bytes: %v, %d; want %d", count, l, e, wrong)
		}
	}
}

// P7.2: bytes without a pattern, but such as are often chunks.
func TestSplitNoise(t *testing.T) {
	next := noise()
	for range 50000 {
		var b []byte
		for range next(5) {
			units := next(4)
			first := 128 + next(32)
			switch next(12) {
			case 0:
				first = next(256)
			case 1, 2:
				first += 32
			}
			b = append(b, byte(first), byte(next(256)), byte(next(40)/39), byte(units))
			for range 4 * units {
				b = append(b, byte(next(16)))
			}
		}
		checkSplit(t, b)
		if len(b) > 0 {
			checkSplit(t, b[:next(len(b))])
			b[next(len(b))] = byte(next(256))
			checkSplit(t, b)
		}
	}
}

// rows tells a row of chunks that may be, without a pattern; their bytes may be too many.
func rows(next func(below int) int) []chunk.Chunk {
	var l []chunk.Chunk
	for range next(8) {
		c := chunk.Chunk{Count: byte(next(32)), Type: byte(next(256)), Body: make([]byte, 4*next(12))}
		for k := range c.Body {
			c.Body[k] = byte(next(256) * next(2))
		}
		l = append(l, c)
	}
	return l
}

// P7.3: chunks come back from their bytes; cut, they are those that are whole, or too short.
func TestChunksComeBack(t *testing.T) {
	next := noise()
	for range 3000 {
		l := rows(next)
		checkJoin(t, l)
		b, e := chunk.Join(l)
		if e != api.OK {
			continue
		}
		ends := map[int]int{}
		at := 0
		for k, c := range l {
			at += 4 + len(c.Body)
			ends[at] = k + 1
		}
		for cut := range len(b) + 1 {
			m, e := chunk.Split(b[:cut])
			count, whole := ends[cut]
			if whole && (!same(m, l[:count]) || e != api.OK) || !whole && (len(m) != 0 || e != api.ErrShort) {
				t.Fatalf("%v, cut at %d: %v, %d", b, cut, m, e)
			}
		}
	}
}

// P7.3: chunks of two rows, joined, are those of the one, and then of the other; also where the last one is padded.
func TestTwoRows(t *testing.T) {
	next := noise()
	for range 5000 {
		l, m := rows(next), rows(next)
		both := append(copied(l), m...)
		b, e := chunk.Join(l)
		c, f := chunk.Join(m)
		bc, g := chunk.Join(both)
		checkJoin(t, both)
		if e != api.OK || f != api.OK || len(b)+len(c) > most {
			if g != api.ErrLong {
				t.Fatalf("%v and %v, joined: %d", l, m, g)
			}
			continue
		}
		if !bytes.Equal(behind(b, c), bc) || g != api.OK {
			t.Fatalf("%v and %v, joined: %v, %d", b, c, bc, g)
		}
		if len(both) == 0 {
			continue
		}
		if back, e := chunk.Split(behind(b, c)); !same(back, both) || e != api.OK {
			t.Fatalf("%v and %v come back as %v, %d", l, m, back, e)
		}
		padded := behind(b, c, []byte{165, 9, 0, 2, 1, 2, 3, 4, 0, 0, 0, 4})
		want := append(both, chunk.Chunk{Count: 5, Type: 9, Body: []byte{1, 2, 3, 4}})
		if back, e := chunk.Split(padded); len(padded) <= most && (!same(back, want) || e != api.OK) {
			t.Fatalf("%v comes back as %v, %d", padded, back, e)
		}
	}
}

// R3: what is told shares nothing with an argument, nor one part of it with another, and arguments stay.
func TestNothingShared(t *testing.T) {
	l := []chunk.Chunk{of(1, 2, 8), of(3, 4, 0), of(5, 6, 4), of(7, 8, 12)}
	kept := copied(l)
	b, _ := chunk.Join(l)
	want := bytes.Clone(b)
	clear(b)
	if again, _ := chunk.Join(l); !same(l, kept) || !bytes.Equal(again, want) {
		t.Error("bytes that are told share with what they were made of")
	}
	one, _ := chunk.Join(l[:1])
	clear(one)
	if !same(l, kept) {
		t.Error("bytes of one chunk share with its Body")
	}

	kept = append(kept, chunk.Chunk{Count: 9, Type: 10, Body: row(4)})
	b = behind(want, []byte{160 + 9, 10, 0, 2}, row(4), []byte{0, 0, 0, 4})
	want = bytes.Clone(b)
	told, _ := chunk.Split(b)
	if !bytes.Equal(b, want) {
		t.Error("Split changed its bytes")
	}
	clear(b)
	if !same(told, kept) {
		t.Error("chunks share with the bytes that they were read from")
	}
	for k := range told {
		clear(told[k].Body)
		_ = append(told[k].Body, bytes.Repeat([]byte{99}, 12)...)
		if !same(told[k+1:], kept[k+1:]) {
			t.Errorf("chunk %d shares with those behind it", k)
		}
	}
	if again, _ := chunk.Split(want); !same(again, kept) {
		t.Error("what is told once is changed by what was told before")
	}
}

// R4, R5: the same calls answer the same, whatever was called between them.
func TestSameAgain(t *testing.T) {
	l := []chunk.Chunk{of(1, 2, 8), of(3, 4, 0)}
	b, _ := chunk.Join(l)
	first, _ := chunk.Split(b)
	chunk.Join(many(of(3, 5, 40), 40))
	chunk.Split([]byte{3, 0, 0, 0})
	chunk.Split(nil)
	if c, e := chunk.Join(l); !bytes.Equal(b, c) || e != api.OK {
		t.Errorf("%v, then %v, %d", b, c, e)
	}
	if again, e := chunk.Split(b); !same(first, again) || e != api.OK {
		t.Errorf("%v, then %v, %d", first, again, e)
	}
}
