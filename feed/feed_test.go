package feed_test

import (
	"bytes"
	"math"
	"slices"
	"testing"

	"manifold/api"
	"manifold/chunk"
	"manifold/feed"
)

// The document's own numbers: of MostBody bytes a chunk's Body has 196 at most.
const (
	mostBody  = 196
	mostAsks  = 23
	mostPairs = 47
	round     = 65536
)

// noise tells numbers that are the same at each run, but have no pattern of their own.
func noise() func(below int) int {
	n := uint64(88172645463325252)
	return func(below int) int {
		n ^= n << 13
		n ^= n >> 7
		n ^= n << 17
		return int(n >> 1 % uint64(below))
	}
}

// row tells so many bytes, none like its neighbours.
func row(size int) []byte {
	b := make([]byte, size)
	for k := range b {
		b[k] = byte(37*k + 11)
	}
	return b
}

// body tells the Body of a Sender 1 and a Media 2, and what stands behind them.
func body(rest ...byte) []byte {
	return append([]byte{0, 0, 0, 1, 0, 0, 0, 2}, rest...)
}

// pli, fir and nack make messages.
func pli(sender, media uint32) feed.Msg {
	return feed.Msg{Kind: feed.Pli, Sender: sender, Media: media}
}

func fir(l ...feed.Ask) feed.Msg {
	return feed.Msg{Kind: feed.Fir, Sender: 0xfedcba98, Asks: l}
}

func nack(l ...uint16) feed.Msg {
	return feed.Msg{Kind: feed.Nack, Sender: 1, Media: 2, Lost: l}
}

// asks tells so many Asks, each with other numbers.
func asks(count int) []feed.Ask {
	var l []feed.Ask
	for k := range count {
		l = append(l, feed.Ask{Source: ^uint32(k) << (k % 9), Number: byte(3*k + 1)})
	}
	return l
}

// every tells so many numbers, each so far ahead of the one before.
func every(far, count int) []uint16 {
	var l []uint16
	for k := range count {
		l = append(l, uint16((65000+far*k)%round))
	}
	return l
}

// same tells whether messages are the same; an empty list and none are (R6).
func same(m, n feed.Msg) bool {
	return m.Kind == n.Kind && m.Sender == n.Sender && m.Media == n.Media && slices.Equal(m.Asks, n.Asks) && slices.Equal(m.Lost, n.Lost)
}

// sameChunk tells whether chunks are the same; no bytes and none are (R6).
func sameChunk(c, d chunk.Chunk) bool {
	return c.Count == d.Count && c.Type == d.Type && bytes.Equal(c.Body, d.Body)
}

// far tells how far one has to go on from a, to come to b.
func far(a, b uint16) int { return (int(b) - int(a) + round) % round }

// newer tells whether b is newer than a.
func newer(a, b uint16) bool { return far(a, b) >= 1 && far(a, b) <= 32767 }

// pairsSlowly tells the lost numbers that each pair tells, by the chapter's words.
func pairsSlowly(lost []uint16) [][]uint16 {
	var l [][]uint16
	for k, n := range lost {
		if k > 0 {
			last := l[len(l)-1]
			if d := far(last[0], n); d >= 1 && d <= 16 {
				l[len(l)-1] = append(last, n)
				continue
			}
		}
		l = append(l, []uint16{n})
	}
	return l
}

// rightSlowly tells whether a message may be, by the chapter's words.
func rightSlowly(m feed.Msg) bool {
	switch m.Kind {
	case 1:
		return len(m.Asks)+len(m.Lost) == 0
	case 2:
		return m.Media == 0 && 1 <= len(m.Asks) && len(m.Asks) <= mostAsks && len(m.Lost) == 0
	case 3:
		for k := range len(m.Lost) - 1 {
			if !newer(m.Lost[k], m.Lost[k+1]) {
				return false
			}
		}
		return len(m.Asks) == 0 && len(m.Lost) >= 1 && len(pairsSlowly(m.Lost)) <= mostPairs
	}
	return false
}

// four tells a number's four bytes, the highest first.
func four(n uint32) []byte {
	return []byte{byte(n / (1 << 24)), byte(n / (1 << 16) % 256), byte(n / 256 % 256), byte(n % 256)}
}

// writeSlowly tells what P9.1 says, part by part.
func writeSlowly(m feed.Msg) (chunk.Chunk, api.Errno) {
	if !rightSlowly(m) {
		return chunk.Chunk{}, api.ErrArg
	}
	parts := [][]byte{four(m.Sender), four(m.Media)}
	for _, a := range m.Asks {
		parts = append(parts, four(a.Source), []byte{a.Number, 0, 0, 0})
	}
	for _, p := range pairsSlowly(m.Lost) {
		also := 0
		for _, n := range p[1:] {
			power := 1
			for range far(p[0], n) - 1 {
				power *= 2
			}
			also += power
		}
		parts = append(parts, four(uint32(p[0])*round+uint32(also)))
	}
	c := chunk.Chunk{Count: 1, Type: 206, Body: bytes.Join(parts, nil)}
	if m.Kind == 2 {
		c.Count = 4
	}
	if m.Kind == 3 {
		c.Type = 205
	}
	return c, api.OK
}

// numberAt tells the number of so many bytes at a place.
func numberAt(b []byte, at, size int) int {
	n := 0
	for _, x := range b[at : at+size] {
		n = 256*n + int(x)
	}
	return n
}

// readSlowly tells what P9.2 says, by places in the Body.
func readSlowly(c chunk.Chunk) (feed.Msg, api.Errno) {
	b := c.Body
	kind := map[[2]byte]int{{206, 1}: 1, {206, 4}: 2, {205, 1}: 3}[[2]byte{c.Type, c.Count}]
	switch {
	case c.Count > 31 || len(b)%4 != 0 || len(b) > mostBody:
		return feed.Msg{}, api.ErrArg
	case kind == 0:
		return feed.Msg{}, api.ErrNone
	case len(b) < 8:
		return feed.Msg{}, api.ErrShort
	case kind == 1 && len(b) > 8:
		return feed.Msg{}, api.ErrLong
	case kind == 2 && (len(b) == 8 || len(b)%8 == 4 || numberAt(b, 4, 4) != 0):
		return feed.Msg{}, api.ErrForm
	case kind == 3 && len(b) == 8:
		return feed.Msg{}, api.ErrForm
	}
	m := feed.Msg{Kind: kind, Sender: uint32(numberAt(b, 0, 4)), Media: uint32(numberAt(b, 4, 4))}
	for at := 8; kind == 2 && at < len(b); at += 8 {
		m.Asks = append(m.Asks, feed.Ask{Source: uint32(numberAt(b, at, 4)), Number: b[at+4]})
	}
	for at := 8; kind == 3 && at < len(b); at += 4 {
		n := numberAt(b, at, 2)
		if at > 8 && !newer(m.Lost[len(m.Lost)-1], uint16(n)) {
			return feed.Msg{}, api.ErrForm
		}
		m.Lost = append(m.Lost, uint16(n))
		also := numberAt(b, at+2, 2)
		for k := range 16 {
			if also%2 == 1 {
				m.Lost = append(m.Lost, uint16((n+k+1)%round))
			}
			also /= 2
		}
	}
	return m, api.OK
}

// checkWrite holds Right and Write against the slow answers, and what comes back from the chunk against the message (P9.3).
func checkWrite(t *testing.T, m feed.Msg) {
	t.Helper()
	if got := feed.Right(m); got != rightSlowly(m) {
		t.Fatalf("Right(%v): %v", m, got)
	}
	want, wrong := writeSlowly(m)
	c, e := feed.Write(m)
	if !sameChunk(c, want) || e != wrong {
		t.Fatalf("Write(%v): %v, %d; want %v, %d", m, c, e, want, wrong)
	}
	if e != api.OK {
		return
	}
	if !chunk.Right(c) {
		t.Fatalf("Write(%v): %v, which may not be", m, c)
	}
	if m.Kind == feed.Nack && (len(c.Body)-8)/4 > len(m.Lost) {
		t.Fatalf("Write(%v): %v, which has more pairs than lost numbers", m, c)
	}
	if n, e := feed.Read(c); !same(m, n) || e != api.OK {
		t.Fatalf("%v comes back from %v as %v, %d", m, c, n, e)
	}
}

// checkRead holds Read against the slow answer, and the message that it tells against what comes back of it (P9.3).
func checkRead(t *testing.T, c chunk.Chunk) {
	t.Helper()
	want, wrong := readSlowly(c)
	m, e := feed.Read(c)
	if !same(m, want) || e != wrong {
		t.Fatalf("Read(%v): %v, %d; want %v, %d", c, m, e, want, wrong)
	}
	if e != api.OK {
		return
	}
	if !feed.Right(m) {
		t.Fatalf("Read(%v): %v, which may not be", c, m)
	}
	d, e := feed.Write(m)
	if e != api.OK || d.Type != c.Type || d.Count != c.Count || len(d.Body) > len(c.Body) {
		t.Fatalf("Write(%v), that %v told: %v, %d", m, c, d, e)
	}
	if n, e := feed.Read(d); !same(m, n) || e != api.OK {
		t.Fatalf("%v comes back from %v as %v, %d", m, d, n, e)
	}
}

// The Kinds are the chapter's numbers, and go where a number of any type does.
func TestKinds(t *testing.T) {
	var kinds = [3]byte{feed.Pli, feed.Fir, feed.Nack}
	if kinds != [3]byte{1, 2, 3} {
		t.Errorf("Kinds: %v", kinds)
	}
}

// P9.1: chunks of messages, written down one by one; and P9.2: they are read.
func TestChunksOfMessages(t *testing.T) {
	for k, c := range []struct {
		m    feed.Msg
		want chunk.Chunk
	}{
		{pli(1, 2), chunk.Chunk{Count: 1, Type: 206, Body: body()}},
		{pli(0, 0), chunk.Chunk{Count: 1, Type: 206, Body: make([]byte, 8)}},
		{pli(0x01020304, 0x05060708), chunk.Chunk{Count: 1, Type: 206, Body: []byte{1, 2, 3, 4, 5, 6, 7, 8}}},
		{pli(math.MaxUint32, 0), chunk.Chunk{Count: 1, Type: 206, Body: []byte{255, 255, 255, 255, 0, 0, 0, 0}}},
		{pli(0, math.MaxUint32), chunk.Chunk{Count: 1, Type: 206, Body: []byte{0, 0, 0, 0, 255, 255, 255, 255}}},
		{feed.Msg{Kind: feed.Pli, Asks: []feed.Ask{}, Lost: []uint16{}}, chunk.Chunk{Count: 1, Type: 206, Body: make([]byte, 8)}},
		{
			feed.Msg{Kind: feed.Fir, Sender: 1, Asks: []feed.Ask{{Source: 0x03040506, Number: 7}}, Lost: []uint16{}},
			chunk.Chunk{Count: 4, Type: 206, Body: []byte{0, 0, 0, 1, 0, 0, 0, 0, 3, 4, 5, 6, 7, 0, 0, 0}},
		},
		{
			fir(feed.Ask{}),
			chunk.Chunk{Count: 4, Type: 206, Body: []byte{254, 220, 186, 152, 0, 0, 0, 0, 0, 0, 0, 0, 0, 0, 0, 0}},
		},
		{
			// One Source may be there more than once, with another Number or with the same one.
			fir(feed.Ask{Source: 2, Number: 255}, feed.Ask{Source: 2, Number: 0}, feed.Ask{Source: 1, Number: 3}, feed.Ask{Source: 1, Number: 3}),
			chunk.Chunk{Count: 4, Type: 206, Body: []byte{
				254, 220, 186, 152, 0, 0, 0, 0,
				0, 0, 0, 2, 255, 0, 0, 0,
				0, 0, 0, 2, 0, 0, 0, 0,
				0, 0, 0, 1, 3, 0, 0, 0,
				0, 0, 0, 1, 3, 0, 0, 0,
			}},
		},
		// The chapter's example.
		{nack(10, 12, 26, 27), chunk.Chunk{Count: 1, Type: 205, Body: body(0, 10, 128, 2, 0, 27, 0, 0)}},
		{nack(0), chunk.Chunk{Count: 1, Type: 205, Body: body(0, 0, 0, 0)}},
		{nack(258), chunk.Chunk{Count: 1, Type: 205, Body: body(1, 2, 0, 0)}},
		{nack(65535), chunk.Chunk{Count: 1, Type: 205, Body: body(255, 255, 0, 0)}},
		{nack(10, 11), chunk.Chunk{Count: 1, Type: 205, Body: body(0, 10, 0, 1)}},
		{nack(10, 26), chunk.Chunk{Count: 1, Type: 205, Body: body(0, 10, 128, 0)}},
		{nack(10, 27), chunk.Chunk{Count: 1, Type: 205, Body: body(0, 10, 0, 0, 0, 27, 0, 0)}},
		{nack(10, 18, 19), chunk.Chunk{Count: 1, Type: 205, Body: body(0, 10, 1, 128)}},
		// The second pair goes on from its own number, not from the last one of the first pair.
		{nack(10, 20, 30, 40, 50), chunk.Chunk{Count: 1, Type: 205, Body: body(0, 10, 2, 0, 0, 30, 2, 0, 0, 50, 0, 0)}},
		{
			nack(1, 2, 3, 4, 5, 6, 7, 8, 9, 10, 11, 12, 13, 14, 15, 16, 17, 18),
			chunk.Chunk{Count: 1, Type: 205, Body: body(0, 1, 255, 255, 0, 18, 0, 0)},
		},
		// The sixteen behind a number go round.
		{nack(65535, 0, 15, 16), chunk.Chunk{Count: 1, Type: 205, Body: body(255, 255, 128, 1, 0, 16, 0, 0)}},
		{nack(65530, 65535, 0, 10, 11), chunk.Chunk{Count: 1, Type: 205, Body: body(255, 250, 128, 48, 0, 11, 0, 0)}},
		// Each is newer than the one before, though not than the first: numbers that come once more, when they went round.
		{nack(0, 30000, 60000, 0, 5), chunk.Chunk{Count: 1, Type: 205, Body: body(0, 0, 0, 0, 117, 48, 0, 0, 234, 96, 0, 0, 0, 0, 0, 16)}},
		{nack(7, 32774, 5, 8), chunk.Chunk{Count: 1, Type: 205, Body: body(0, 7, 0, 0, 128, 6, 0, 0, 0, 5, 0, 4)}},
	} {
		if got, e := feed.Write(c.m); !sameChunk(got, c.want) || e != api.OK {
			t.Errorf("case %d: %v, %d; want %v", k, got, e, c.want)
		}
		if m, e := feed.Read(c.want); !same(m, c.m) || e != api.OK {
			t.Errorf("case %d comes back as %v, %d", k, m, e)
		}
		if !feed.Right(c.m) {
			t.Errorf("case %d may not be", k)
		}
		checkWrite(t, c.m)
		checkRead(t, c.want)
	}
}

// P9.1: messages that may not be, written down one by one.
func TestWrongMessages(t *testing.T) {
	ask, lost := []feed.Ask{{Source: 1}}, []uint16{1}
	for k, m := range []feed.Msg{
		{},
		{Sender: 1, Media: 2},
		{Asks: ask},
		{Lost: lost},
		{Kind: -1},
		{Kind: 4},
		{Kind: 4, Asks: ask},
		{Kind: 4, Lost: lost},
		{Kind: 5, Lost: lost},
		{Kind: 257},
		{Kind: 1<<32 + 1},
		{Kind: math.MaxInt},
		{Kind: math.MinInt},
		{Kind: feed.Pli, Asks: ask},
		{Kind: feed.Pli, Lost: lost},
		{Kind: feed.Pli, Asks: ask, Lost: lost},
		{Kind: feed.Pli, Asks: []feed.Ask{{}}},
		{Kind: feed.Pli, Lost: []uint16{0}},
		{Kind: feed.Fir},
		{Kind: feed.Fir, Asks: []feed.Ask{}},
		{Kind: feed.Fir, Lost: lost},
		{Kind: feed.Fir, Asks: ask, Lost: lost},
		{Kind: feed.Fir, Asks: ask, Lost: []uint16{0}},
		{Kind: feed.Fir, Asks: ask, Media: 1},
		{Kind: feed.Fir, Asks: ask, Media: 1 << 31},
		{Kind: feed.Fir, Asks: ask, Media: math.MaxUint32},
		{Kind: feed.Fir, Asks: make([]feed.Ask, 24)},
		{Kind: feed.Nack},
		{Kind: feed.Nack, Lost: []uint16{}},
		{Kind: feed.Nack, Asks: ask},
		{Kind: feed.Nack, Asks: ask, Lost: lost},
		{Kind: feed.Nack, Asks: []feed.Ask{{}}, Lost: lost},
		{Kind: feed.Nack, Lost: []uint16{5, 5}},
		{Kind: feed.Nack, Lost: []uint16{5, 4}},
		{Kind: feed.Nack, Lost: []uint16{0, 65535}},
		{Kind: feed.Nack, Lost: []uint16{0, 32768}},
		{Kind: feed.Nack, Lost: []uint16{32768, 0}},
		{Kind: feed.Nack, Lost: []uint16{1, 2, 3, 3}},
		{Kind: feed.Nack, Lost: []uint16{1, 3, 2}},
		{Kind: feed.Nack, Lost: []uint16{1, 100, 99}},
		{Kind: feed.Nack, Lost: []uint16{1, 100, 1, 2}},
	} {
		if c, e := feed.Write(m); feed.Right(m) || e != api.ErrArg || !sameChunk(c, chunk.Chunk{}) {
			t.Errorf("case %d: %v, %d", k, c, e)
		}
		checkWrite(t, m)
	}
}

// P9.1: what isn't told by its Kind is there, or isn't, at each Kind.
func TestWhatIsNotTold(t *testing.T) {
	for kind := -3; kind < 10; kind++ {
		for _, media := range []uint32{0, 1, 1 << 16, 1 << 31} {
			for _, l := range [][]feed.Ask{nil, {}, asks(1), asks(2), asks(23), asks(24)} {
				for _, lost := range [][]uint16{nil, {}, {0}, {1, 2}, {2, 1}, every(17, 47), every(17, 48)} {
					checkWrite(t, feed.Msg{Kind: kind, Sender: 3, Media: media, Asks: l, Lost: lost})
				}
			}
		}
	}
}

// P9.1: how many Asks may be: written down for each count, and far more than may be.
func TestCountOfAsks(t *testing.T) {
	for count := range 60 {
		m := fir(asks(count)...)
		if got := feed.Right(m); got != (count >= 1 && count <= 23) {
			t.Errorf("Right with %d Asks: %v", count, got)
		}
		checkWrite(t, m)
	}
	for _, count := range []int{255, 256, 257, 279, 1 << 16, 1<<16 + 1} {
		m := fir(make([]feed.Ask, count)...)
		if c, e := feed.Write(m); feed.Right(m) || e != api.ErrArg || !sameChunk(c, chunk.Chunk{}) {
			t.Errorf("%d Asks: %d bytes, %d", count, len(c.Body), e)
		}
	}
}

// P9.1: how many pairs may be: far fewer, just as many, and more than those, of numbers that stand in all ways.
func TestCountOfPairs(t *testing.T) {
	for _, c := range []struct{ far, most int }{
		{1, 799}, {2, 423}, {3, 282}, {5, 188}, {8, 141}, {9, 94}, {15, 94}, {16, 94}, {17, 47}, {18, 47}, {1000, 47}, {30000, 47}, {32767, 47},
	} {
		for _, count := range []int{1, 2, 46, 47, 48, c.most - 1, c.most, c.most + 1, 2 * c.most, 4000} {
			m := nack(every(c.far, count)...)
			if got := feed.Right(m); got != (count <= c.most) {
				t.Errorf("Right of %d numbers, each %d ahead: %v", count, c.far, got)
			}
			checkWrite(t, m)
		}
	}
	// A pair more at the end, at the start and between others.
	for k := range mostPairs {
		lost := every(1, 17*mostPairs)
		for n := 17 * k; n < len(lost); n++ {
			lost[n]++
		}
		checkWrite(t, nack(lost...))
		checkWrite(t, nack(lost[1:]...))
		checkWrite(t, nack(append(lost, lost[len(lost)-1]+1)...))
	}
}

// P9.1: two numbers at each distance, from some numbers on, and each first number with some distances.
func TestEachDistance(t *testing.T) {
	for _, n := range []int{0, 1, 15, 255, 256, 32767, 32768, 65519, 65520, 65534, 65535} {
		for d := range round {
			m := nack(uint16(n), uint16((n+d)%round))
			if got := feed.Right(m); got != (d >= 1 && d <= 32767) {
				t.Fatalf("Right of %d, and %d ahead of it: %v", n, d, got)
			}
			checkWrite(t, m)
		}
	}
	for n := range round {
		for _, d := range []int{1, 2, 15, 16, 17, 32767} {
			checkWrite(t, nack(uint16(n), uint16((n+d)%round)))
		}
	}
}

// P9.1: a number that is none newer than the one before, at each place of a list.
func TestPlaceThatFalls(t *testing.T) {
	for _, gap := range []int{1, 3, 16, 17, 40} {
		for place := 1; place < 40; place++ {
			for _, d := range []int{0, 1, 2, 16, 17, 32767, 32768, 32769, 65535} {
				lost := every(gap, 40)
				shift := lost[place-1] + uint16(d) - lost[place]
				for k := place; k < len(lost); k++ {
					lost[k] += shift
				}
				m := nack(lost...)
				if got := feed.Right(m); got != (d >= 1 && d <= 32767) {
					t.Fatalf("Right of %v: %v", lost, got)
				}
				checkWrite(t, m)
			}
		}
	}
}

// P9.1, P9.2: all that one pair can tell, from numbers on that go round and that don't.
func TestEachPair(t *testing.T) {
	for _, n := range []int{0, 10, 65535, 65528, 32760} {
		for also := range round {
			lost := []uint16{uint16(n)}
			for k := range 16 {
				if also/(1<<k)%2 == 1 {
					lost = append(lost, uint16((n+k+1)%round))
				}
			}
			want := chunk.Chunk{Count: 1, Type: 205, Body: body(byte(n/256), byte(n%256), byte(also/256), byte(also%256))}
			if c, e := feed.Write(nack(lost...)); !sameChunk(c, want) || e != api.OK {
				t.Fatalf("Write of %v: %v, %d; want %v", lost, c, e, want)
			}
			if m, e := feed.Read(want); !same(m, nack(lost...)) || e != api.OK {
				t.Fatalf("Read of %v: %v, %d; want %v", want, m, e, lost)
			}
		}
	}
}

// P9.2: chunks that tell no message, and of those of which several errors could be told, the first (R2).
func TestReadOfWrongChunks(t *testing.T) {
	for k, c := range []struct {
		c chunk.Chunk
		e api.Errno
	}{
		{chunk.Chunk{Count: 32, Type: 205, Body: body(0, 1, 0, 0)}, api.ErrArg},
		{chunk.Chunk{Count: 33, Type: 206, Body: body()}, api.ErrArg},
		{chunk.Chunk{Count: 36, Type: 206, Body: make([]byte, 16)}, api.ErrArg},
		{chunk.Chunk{Count: 255, Type: 0}, api.ErrArg},
		{chunk.Chunk{Count: 1, Type: 206, Body: make([]byte, 7)}, api.ErrArg},
		{chunk.Chunk{Count: 1, Type: 206, Body: make([]byte, 9)}, api.ErrArg},
		{chunk.Chunk{Count: 1, Type: 205, Body: make([]byte, 10)}, api.ErrArg},
		{chunk.Chunk{Count: 4, Type: 206, Body: make([]byte, 17)}, api.ErrArg},
		{chunk.Chunk{Count: 4, Type: 206, Body: make([]byte, 200)}, api.ErrArg},
		{chunk.Chunk{Count: 1, Type: 205, Body: make([]byte, 200)}, api.ErrArg},
		{chunk.Chunk{Count: 1, Type: 206, Body: make([]byte, 200)}, api.ErrArg},
		{chunk.Chunk{Count: 2, Type: 205, Body: make([]byte, 1)}, api.ErrArg},
		{chunk.Chunk{}, api.ErrNone},
		{chunk.Chunk{Count: 1, Body: body()}, api.ErrNone},
		{chunk.Chunk{Count: 4, Type: 205, Body: make([]byte, 16)}, api.ErrNone},
		{chunk.Chunk{Count: 1, Type: 204, Body: body()}, api.ErrNone},
		{chunk.Chunk{Count: 1, Type: 207, Body: body()}, api.ErrNone},
		{chunk.Chunk{Count: 4, Type: 207, Body: make([]byte, 16)}, api.ErrNone},
		{chunk.Chunk{Count: 0, Type: 206, Body: body()}, api.ErrNone},
		{chunk.Chunk{Count: 2, Type: 206}, api.ErrNone},
		{chunk.Chunk{Count: 3, Type: 206, Body: body()}, api.ErrNone},
		{chunk.Chunk{Count: 5, Type: 206, Body: make([]byte, 16)}, api.ErrNone},
		{chunk.Chunk{Count: 15, Type: 206, Body: body()}, api.ErrNone},
		{chunk.Chunk{Count: 0, Type: 205}, api.ErrNone},
		{chunk.Chunk{Count: 2, Type: 205, Body: make([]byte, 4)}, api.ErrNone},
		{chunk.Chunk{Count: 17, Type: 205, Body: body(0, 1, 0, 0)}, api.ErrNone},
		{chunk.Chunk{Count: 1, Type: 201, Body: body()}, api.ErrNone},
		{chunk.Chunk{Count: 1, Type: 206}, api.ErrShort},
		{chunk.Chunk{Count: 1, Type: 206, Body: make([]byte, 4)}, api.ErrShort},
		{chunk.Chunk{Count: 4, Type: 206}, api.ErrShort},
		{chunk.Chunk{Count: 4, Type: 206, Body: []byte{1, 2, 3, 4}}, api.ErrShort},
		{chunk.Chunk{Count: 1, Type: 205}, api.ErrShort},
		{chunk.Chunk{Count: 1, Type: 205, Body: []byte{1, 2, 3, 4}}, api.ErrShort},
		{chunk.Chunk{Count: 1, Type: 206, Body: make([]byte, 12)}, api.ErrLong},
		{chunk.Chunk{Count: 1, Type: 206, Body: body(1, 2, 3, 4)}, api.ErrLong},
		{chunk.Chunk{Count: 1, Type: 206, Body: make([]byte, 16)}, api.ErrLong},
		{chunk.Chunk{Count: 1, Type: 206, Body: make([]byte, mostBody)}, api.ErrLong},
		{chunk.Chunk{Count: 4, Type: 206, Body: make([]byte, 8)}, api.ErrForm},
		{chunk.Chunk{Count: 4, Type: 206, Body: body()}, api.ErrForm},
		{chunk.Chunk{Count: 4, Type: 206, Body: make([]byte, 12)}, api.ErrForm},
		{chunk.Chunk{Count: 4, Type: 206, Body: make([]byte, 20)}, api.ErrForm},
		{chunk.Chunk{Count: 4, Type: 206, Body: make([]byte, mostBody)}, api.ErrForm},
		{chunk.Chunk{Count: 4, Type: 206, Body: body(make([]byte, 8)...)}, api.ErrForm},
		{chunk.Chunk{Count: 4, Type: 206, Body: body(make([]byte, 4)...)}, api.ErrForm},
		{chunk.Chunk{Count: 1, Type: 205, Body: body()}, api.ErrForm},
		{chunk.Chunk{Count: 1, Type: 205, Body: body(0, 10, 0, 0, 0, 10, 0, 0)}, api.ErrForm},
		{chunk.Chunk{Count: 1, Type: 205, Body: body(0, 10, 0, 0, 0, 9, 0, 0)}, api.ErrForm},
		{chunk.Chunk{Count: 1, Type: 205, Body: body(0, 10, 0, 5, 0, 13, 0, 0)}, api.ErrForm},
		{chunk.Chunk{Count: 1, Type: 205, Body: body(0, 10, 0, 5, 0, 12, 0, 0)}, api.ErrForm},
		{chunk.Chunk{Count: 1, Type: 205, Body: body(0, 10, 128, 0, 0, 26, 0, 0)}, api.ErrForm},
		{chunk.Chunk{Count: 1, Type: 205, Body: body(0, 0, 0, 0, 128, 0, 0, 0)}, api.ErrForm},
		{chunk.Chunk{Count: 1, Type: 205, Body: body(255, 255, 0, 1, 0, 0, 0, 0)}, api.ErrForm},
		{chunk.Chunk{Count: 1, Type: 205, Body: body(0, 10, 0, 0, 0, 11, 0, 0, 0, 11, 0, 0)}, api.ErrForm},
		{chunk.Chunk{Count: 1, Type: 205, Body: body(0, 10, 0, 0, 0, 11, 0, 0, 0, 10, 0, 0, 0, 12, 0, 0)}, api.ErrForm},
		{chunk.Chunk{Count: 1, Type: 205, Body: make([]byte, mostBody)}, api.ErrForm},
	} {
		if m, e := feed.Read(c.c); !same(m, feed.Msg{}) || e != c.e {
			t.Errorf("case %d: %v, %d; want %d", k, m, e, c.e)
		}
		checkRead(t, c.c)
	}
}

// P9.2: chunks of messages that Write would write otherwise, written down one by one.
func TestOtherChunks(t *testing.T) {
	for k, c := range []struct {
		c    chunk.Chunk
		want feed.Msg
	}{
		// The last three bytes of each Ask are passed over.
		{
			chunk.Chunk{Count: 4, Type: 206, Body: []byte{0, 0, 0, 1, 0, 0, 0, 0, 0, 0, 0, 2, 3, 4, 5, 6, 0, 0, 0, 7, 8, 255, 255, 255}},
			feed.Msg{Kind: feed.Fir, Sender: 1, Asks: []feed.Ask{{Source: 2, Number: 3}, {Source: 7, Number: 8}}},
		},
		// Pairs that one could tell.
		{chunk.Chunk{Count: 1, Type: 205, Body: body(0, 10, 0, 0, 0, 11, 0, 0)}, nack(10, 11)},
		{chunk.Chunk{Count: 1, Type: 205, Body: body(0, 10, 0, 5, 0, 14, 0, 0)}, nack(10, 11, 13, 14)},
		{chunk.Chunk{Count: 1, Type: 205, Body: body(0, 10, 0, 5, 0, 14, 255, 255, 0, 31, 0, 0)}, nack(10, 11, 13, 14, 15, 16, 17, 18, 19, 20, 21, 22, 23, 24, 25, 26, 27, 28, 29, 30, 31)},
		{chunk.Chunk{Count: 1, Type: 205, Body: body(255, 255, 0, 0, 0, 0, 0, 0)}, nack(65535, 0)},
		{chunk.Chunk{Count: 1, Type: 205, Body: body(255, 250, 0, 32, 0, 1, 0, 1)}, nack(65530, 0, 1, 2)},
	} {
		if m, e := feed.Read(c.c); !same(m, c.want) || e != api.OK {
			t.Errorf("case %d: %v, %d; want %v", k, m, e, c.want)
		}
		checkRead(t, c.c)
	}
}

// P9.2: each bit of each number of each Kind's Body; those of a Fir's Media may not be.
func TestEachBit(t *testing.T) {
	for _, c := range []chunk.Chunk{{Count: 1, Type: 206, Body: make([]byte, 8)}, {Count: 4, Type: 206, Body: make([]byte, 24)}, {Count: 1, Type: 205, Body: make([]byte, 12)}} {
		for k := range 8 * len(c.Body) {
			c.Body[k/8] = 1 << (k % 8)
			checkRead(t, c)
			m, e := feed.Read(c)
			if wrong := c.Count == 4 && k/8 >= 4 && k/8 < 8; wrong != (e == api.ErrForm) || wrong == (e == api.OK) || m.Sender != uint32(numberAt(c.Body, 0, 4)) && !wrong {
				t.Fatalf("Read(%v): %v, %d", c, m, e)
			}
			c.Body[k/8] = 0
		}
	}
}

// P9.2: each Type and Count with some lengths of a Body, and all lengths of those that are a message's, or next to one.
func TestEachTypeAndCount(t *testing.T) {
	all := row(mostBody + 30)
	for kind := range 256 {
		for count := range 256 {
			for _, size := range []int{0, 3, 8, 16, 24, 196, 200} {
				checkRead(t, chunk.Chunk{Count: byte(count), Type: byte(kind), Body: all[:size]})
			}
		}
	}
	for _, clean := range []bool{false, true} {
		if clean {
			clear(all[4:8])
		}
		for _, kind := range []byte{77, 78, 204, 205, 206, 207} {
			for count := range 40 {
				for size := range len(all) + 1 {
					checkRead(t, chunk.Chunk{Count: byte(count), Type: kind, Body: all[:size]})
				}
			}
		}
	}
}

// P9.2: a second pair with each number, behind pairs whose last number is told by their own number, and by each of their bits.
func TestEachSecondPair(t *testing.T) {
	for k := -1; k < 16; k++ {
		first, last := 65529, 65530+k
		also := 0
		if k >= 0 {
			also = 1<<k + 1<<k/2
		}
		for n := range round {
			c := chunk.Chunk{Count: 1, Type: 205, Body: body(byte(first/256), byte(first%256), byte(also/256), byte(also%256), byte(n/256), byte(n%256), 0, 1)}
			d := (n - last + 2*round) % round
			if _, e := feed.Read(c); (e == api.OK) != (d >= 1 && d <= 32767) {
				t.Fatalf("Read of a pair's %d behind %d: %d", n, last, e)
			}
			if k < 1 || k == 15 || d < 40 || d > round-40 {
				checkRead(t, c)
			}
		}
	}
}

// P9.2: a pair that isn't newer, at each place of a full Body; and as many pairs as may be.
func TestPlaceOfPair(t *testing.T) {
	for place := range mostPairs {
		for _, d := range []int{0, 1, 32767, 32768, 65535} {
			var pairs []byte
			last := 65000
			for k := range mostPairs {
				n := last + 20
				if k == place {
					n = last + d
				}
				pairs = append(pairs, byte(n/256), byte(n%256), 0, 4)
				last = (n + 3) % round
			}
			c := chunk.Chunk{Count: 1, Type: 205, Body: body(pairs...)}
			// The first pair may have any number.
			want := place == 0 || d >= 1 && d <= 32767
			if m, e := feed.Read(c); want != (e == api.OK) || want != (len(m.Lost) == 2*mostPairs) {
				t.Errorf("a pair %d ahead at %d: %v, %d", d, place, m, e)
			}
			checkRead(t, c)
		}
	}
}

// P9.2: a chunk of a message whose Body is cut, or goes on.
func TestCutChunks(t *testing.T) {
	for _, m := range []feed.Msg{pli(3, 4), fir(asks(1)...), fir(asks(22)...), fir(asks(23)...), nack(1, 5, 9), nack(every(17, 46)...), nack(every(17, 47)...)} {
		whole, _ := feed.Write(m)
		for size := 0; size <= mostBody; size += 4 {
			c := whole
			c.Body = append(bytes.Clone(c.Body), row(mostBody)...)[:size]
			want := api.OK
			switch {
			case size < 8:
				want = api.ErrShort
			case m.Kind == feed.Pli && size > 8:
				want = api.ErrLong
			case m.Kind == feed.Fir && (size == 8 || size%8 != 0), m.Kind == feed.Nack && size == 8:
				want = api.ErrForm
			}
			// What a Nack goes on with may be no pair, so that only checkRead can tell.
			if _, e := feed.Read(c); e != want && (m.Kind != feed.Nack || size <= len(whole.Body)) {
				t.Fatalf("%v with %d bytes: %d; want %d", whole, size, e, want)
			}
			checkRead(t, c)
		}
	}
}

// anyMsg tells a message without a pattern, that mostly may be.
func anyMsg(next func(below int) int) feed.Msg {
	some := func() uint32 { return uint32(next(1<<32)) >> next(32) * uint32(next(4)) }
	m := feed.Msg{Kind: 1 + next(3), Sender: some(), Media: some()}
	if m.Kind == feed.Fir && next(20) > 0 {
		m.Media = 0
	}
	if (m.Kind == feed.Fir) != (next(40) == 0) {
		for range next(26) {
			m.Asks = append(m.Asks, feed.Ask{Source: some(), Number: byte(some())})
		}
	}
	if (m.Kind == feed.Nack) != (next(40) == 0) {
		n, wide := next(round), 1+next(40)
		for range next(70) {
			n += 1 + next(wide)
			switch next(300) {
			case 0:
				n--
			case 1:
				n += next(round)
			}
			m.Lost = append(m.Lost, uint16(n%round))
		}
	}
	return m
}

// P9.3: messages without a pattern come back from their chunks; so they do by way of the chunks' bytes.
func TestMessagesComeBack(t *testing.T) {
	next := noise()
	for range 50000 {
		m := anyMsg(next)
		checkWrite(t, m)
		c, e := feed.Write(m)
		if e != api.OK {
			continue
		}
		b, e := chunk.Join([]chunk.Chunk{c})
		if e != api.OK {
			t.Fatalf("Join of %v: %d", c, e)
		}
		l, e := chunk.Split(b)
		if e != api.OK || len(l) != 1 {
			t.Fatalf("Split of %v: %v, %d", b, l, e)
		}
		if n, e := feed.Read(l[0]); !same(m, n) || e != api.OK {
			t.Fatalf("%v comes back from %v as %v, %d", m, b, n, e)
		}
	}
}

// P9.2, P9.3: chunks without a pattern, but such as are often messages', are read as the chapter says.
func TestAnyChunks(t *testing.T) {
	next := noise()
	marks := []chunk.Chunk{{Count: 1, Type: 206}, {Count: 4, Type: 206}, {Count: 1, Type: 205}, {Count: 1, Type: 205}}
	for range 50000 {
		c := marks[next(len(marks))]
		for range 8 {
			c.Body = append(c.Body, byte(next(256)))
		}
		if c.Count == 4 && next(9) > 0 {
			clear(c.Body[4:])
		}
		n, wide := next(round), 1+next(60)
		for range next(49 - 47*next(2)) {
			n += next(wide)
			c.Body = append(c.Body, byte(n/256%256), byte(n%256), byte(next(256)*next(3)), byte(next(256)*next(2)))
			n += 16 * next(2)
		}
		checkRead(t, c)
	}
}

// R1: lists far longer than may be are told of soon.
func TestLongLists(t *testing.T) {
	for _, far := range []int{1, 17, 32767} {
		m := nack(every(far, 1<<22)...)
		if c, e := feed.Write(m); feed.Right(m) || e != api.ErrArg || !sameChunk(c, chunk.Chunk{}) {
			t.Errorf("numbers, each %d ahead: %d bytes, %d", far, len(c.Body), e)
		}
	}
}

// R3: what is told shares nothing with an argument, and arguments stay.
func TestNothingShared(t *testing.T) {
	for _, of := range []func() feed.Msg{
		func() feed.Msg { return pli(3, 4) },
		func() feed.Msg { return fir(asks(5)...) },
		func() feed.Msg { return nack(every(7, 20)...) },
	} {
		m := of()
		c, _ := feed.Write(m)
		want := bytes.Clone(c.Body)
		if feed.Right(m); !same(m, of()) {
			t.Error("Write, or Right, changed its message")
		}
		clear(c.Body)
		_ = append(c.Body, 1, 2, 3, 4)
		if again, _ := feed.Write(m); !same(m, of()) || !bytes.Equal(again.Body, want) {
			t.Error("a chunk shares with the message that it was made of")
		}

		copy(c.Body, want)
		n, _ := feed.Read(c)
		if !bytes.Equal(c.Body, want) {
			t.Error("Read changed its chunk")
		}
		clear(c.Body)
		if !same(n, m) {
			t.Error("a message shares with the chunk that it was read from")
		}
		copy(c.Body, want)
		clear(n.Asks)
		clear(n.Lost)
		if again, _ := feed.Read(c); !bytes.Equal(c.Body, want) || !same(again, m) {
			t.Error("what is told once is changed by what was told before")
		}
	}
}

// R4, R5: the same calls answer the same, whatever was called between them.
func TestSameAgain(t *testing.T) {
	for _, m := range []feed.Msg{pli(3, 4), fir(asks(5)...), nack(every(7, 20)...)} {
		c, _ := feed.Write(m)
		first, _ := feed.Read(c)
		feed.Write(nack(every(17, 47)...))
		feed.Write(nack(5, 4))
		feed.Write(fir(asks(24)...))
		feed.Read(chunk.Chunk{Count: 1, Type: 205, Body: row(mostBody)})
		feed.Read(chunk.Chunk{Type: 7})
		if d, e := feed.Write(m); !sameChunk(c, d) || e != api.OK {
			t.Errorf("%v, then %v, %d", c, d, e)
		}
		if again, e := feed.Read(c); !same(first, again) || e != api.OK {
			t.Errorf("%v, then %v, %d", first, again, e)
		}
	}
}
