package compound_test

import (
	"bytes"
	"math"
	"slices"
	"testing"

	"manifold/api"
	"manifold/chunk"
	"manifold/compound"
	"manifold/feed"
	"manifold/report"
)

// mostBody is the document's own number of bytes that a datagram has at most.
const mostBody = 200

// noise tells numbers that are the same at each run, but have no pattern of their own.
func noise() func(below int) int {
	n := uint64(88172645463325252)
	return func(below int) int {
		n ^= n << 13
		n ^= n >> 7
		n ^= n << 17
		return int(n >> 1 % uint64(below))
	}
}

// row tells so many bytes, none like its neighbours.
func row(size int) []byte {
	b := make([]byte, size)
	for k := range b {
		b[k] = byte(37*k + 11)
	}
	return b
}

// ofReport, ofMsg and ofChunk make items.
func ofReport(r report.Report) compound.Item {
	return compound.Item{Kind: 1, Report: r}
}

func ofMsg(m feed.Msg) compound.Item {
	return compound.Item{Kind: 2, Feed: m}
}

func ofChunk(kind, count byte, body ...byte) compound.Item {
	return compound.Item{Kind: 3, Other: chunk.Chunk{Type: kind, Count: count, Body: body}}
}

// pli, fir and nack make items with a message.
func pli(media uint32) compound.Item {
	return ofMsg(feed.Msg{Kind: feed.Pli, Sender: 1, Media: media})
}

func fir(sources ...uint32) compound.Item {
	m := feed.Msg{Kind: feed.Fir, Sender: 1}
	for k, n := range sources {
		m.Asks = append(m.Asks, feed.Ask{Source: n, Number: byte(k + 3)})
	}
	return ofMsg(m)
}

func nack(media uint32, lost ...uint16) compound.Item {
	return ofMsg(feed.Msg{Kind: feed.Nack, Sender: 1, Media: media, Lost: lost})
}

// receiver and sender make items with a report of so many Blocks.
func receiver(count int) compound.Item {
	r := report.Report{Source: 0x01020304}
	for k := range count {
		r.Blocks = append(r.Blocks, report.Block{Source: uint32(k), Part: 1, Missing: -2, High: 3, Jitter: 4, Last: 5, Delay: 6})
	}
	return ofReport(r)
}

func sender(count int) compound.Item {
	x := receiver(count)
	x.Report.Sender = true
	x.Report.Info = report.Info{Sec: 7, Frac: 8, Stamp: 9, Packets: 10, Octets: 11}
	return x
}

// sameReport, sameMsg and sameChunk tell whether two are the same; an empty list and none are (R6).
func sameReport(r, s report.Report) bool {
	return r.Sender == s.Sender && r.Source == s.Source && r.Info == s.Info && slices.Equal(r.Blocks, s.Blocks)
}

func sameMsg(m, n feed.Msg) bool {
	return m.Kind == n.Kind && m.Sender == n.Sender && m.Media == n.Media && slices.Equal(m.Asks, n.Asks) && slices.Equal(m.Lost, n.Lost)
}

func sameChunk(c, d chunk.Chunk) bool {
	return c.Count == d.Count && c.Type == d.Type && bytes.Equal(c.Body, d.Body)
}

// same tells whether items are the same, one by one.
func same(l, m []compound.Item) bool {
	return slices.EqualFunc(l, m, func(x, y compound.Item) bool {
		return x.Kind == y.Kind && sameReport(x.Report, y.Report) && sameMsg(x.Feed, y.Feed) && sameChunk(x.Other, y.Other)
	})
}

// typed tells the Kind of an item whose chunk has that Type and Count, by the chapters' words.
func typed(kind, count byte) int {
	switch {
	case kind == 200, kind == 201:
		return 1
	case kind == 206 && (count == 1 || count == 4), kind == 205 && count == 1:
		return 2
	}
	return 3
}

// rightSlowly tells whether an item may be, by the chapter's words.
func rightSlowly(x compound.Item) bool {
	zero := []bool{sameReport(x.Report, report.Report{}), sameMsg(x.Feed, feed.Msg{}), sameChunk(x.Other, chunk.Chunk{})}
	for k, is := range zero {
		if x.Kind != k+1 && !is {
			return false
		}
	}
	switch x.Kind {
	case 1:
		return report.Right(x.Report)
	case 2:
		return feed.Right(x.Feed)
	case 3:
		return chunk.Right(x.Other) && typed(x.Other.Type, x.Other.Count) == 3
	}
	return false
}

// writeSlowly tells what P10.1 says, item by item.
func writeSlowly(l []compound.Item) ([]byte, api.Errno) {
	if !slices.ContainsFunc(l, func(x compound.Item) bool { return !rightSlowly(x) }) {
		var b []byte
		for _, x := range l {
			c := x.Other
			switch x.Kind {
			case 1:
				c, _ = report.Write(x.Report)
			case 2:
				c, _ = feed.Write(x.Feed)
			}
			size := len(c.Body) / 4
			b = append(b, 128+c.Count, c.Type, byte(size/256), byte(size%256))
			b = append(b, c.Body...)
		}
		if len(b) > mostBody {
			return nil, api.ErrLong
		}
		return b, api.OK
	}
	return nil, api.ErrArg
}

// readSlowly tells what P10.2 says, chunk by chunk.
func readSlowly(b []byte) ([]compound.Item, api.Errno) {
	chunks, e := chunk.Split(b)
	if e != api.OK {
		return nil, e
	}
	var l []compound.Item
	for _, c := range chunks {
		x := compound.Item{Kind: typed(c.Type, c.Count)}
		switch x.Kind {
		case 1:
			x.Report, e = report.Read(c)
		case 2:
			x.Feed, e = feed.Read(c)
		case 3:
			x.Other = c
		}
		if e != api.OK {
			return nil, e
		}
		l = append(l, x)
	}
	return l, api.OK
}

// askedSlowly and lostSlowly tell what P10.3 says.
func askedSlowly(l []compound.Item) []uint32 {
	var sources []uint32
	for _, x := range l {
		if x.Kind == 2 && x.Feed.Kind == 1 {
			sources = append(sources, x.Feed.Media)
		}
		for _, a := range x.Feed.Asks {
			if x.Kind == 2 && x.Feed.Kind == 2 {
				sources = append(sources, a.Source)
			}
		}
	}
	return sources
}

func lostSlowly(l []compound.Item, media uint32) int {
	count := 0
	for _, x := range l {
		for range x.Feed.Lost {
			if x.Kind == 2 && x.Feed.Kind == 3 && x.Feed.Media == media {
				count++
			}
		}
	}
	return count
}

// checkTold holds Asked and Lost against the slow answers.
func checkTold(t *testing.T, l []compound.Item) {
	t.Helper()
	if got, want := compound.Asked(l), askedSlowly(l); !slices.Equal(got, want) {
		t.Fatalf("Asked(%v): %v; want %v", l, got, want)
	}
	media := []uint32{0, 1, 2, math.MaxUint32}
	for _, x := range l {
		media = append(media, x.Feed.Media, x.Feed.Sender)
	}
	for _, n := range media {
		if got, want := compound.Lost(l, n), lostSlowly(l, n); got != want {
			t.Fatalf("Lost(%v, %d): %d; want %d", l, n, got, want)
		}
	}
}

// checkWrite holds Right, Write, Asked and Lost against the slow answers, and what comes back from the bytes against the items (P10.4).
func checkWrite(t *testing.T, l []compound.Item) {
	t.Helper()
	for _, x := range l {
		if got := compound.Right(x); got != rightSlowly(x) {
			t.Fatalf("Right(%v): %v", x, got)
		}
	}
	checkTold(t, l)
	want, wrong := writeSlowly(l)
	b, e := compound.Write(l)
	if !bytes.Equal(b, want) || e != wrong {
		t.Fatalf("Write(%v): %v, %d; want %v, %d", l, b, e, want, wrong)
	}
	// No bytes are no datagram, so no items don't come back.
	if e != api.OK || len(l) == 0 {
		return
	}
	if m, e := compound.Read(b); !same(l, m) || e != api.OK {
		t.Fatalf("%v come back from %v as %v, %d", l, b, m, e)
	}
}

// checkRead holds Read against the slow answer, and the items that it tells against what comes back of them (P10.4).
func checkRead(t *testing.T, b []byte) {
	t.Helper()
	want, wrong := readSlowly(b)
	l, e := compound.Read(b)
	if !same(l, want) || e != wrong {
		t.Fatalf("Read(%v): %v, %d; want %v, %d", b, l, e, want, wrong)
	}
	checkTold(t, l)
	if e != api.OK {
		return
	}
	if again, e := compound.Write(l); e != api.OK || len(again) > len(b) {
		t.Fatalf("Write(%v), that %v told: %v, %d", l, b, again, e)
	}
	checkWrite(t, l)
}

// raw tells a chunk's bytes, whatever its Count and Body are.
func raw(kind, count byte, body ...byte) []byte {
	return append([]byte{128 + count, kind, 0, byte(len(body) / 4)}, body...)
}

// lists tells rows of items, of which each alone may be.
func lists() [][]compound.Item {
	return [][]compound.Item{
		nil,
		{},
		{receiver(0)},
		{sender(0)},
		{receiver(8)},
		{sender(7)},
		{pli(7)},
		{fir(8, 9)},
		{nack(7, 1, 2, 40)},
		{ofChunk(203, 1, 0, 0, 0, 5)},
		{ofChunk(0, 0)},
		{sender(1), receiver(1), pli(7), fir(8, 9), nack(7, 1, 2, 40), ofChunk(202, 31, row(8)...)},
		{ofChunk(202, 31, row(8)...), nack(7, 1, 2, 40), fir(8, 9), pli(7), receiver(1), sender(1)},
		{receiver(0), receiver(0), pli(1), pli(1), ofChunk(0, 0), ofChunk(0, 0)},
	}
}

// The Kinds are the chapter's numbers, and go where a number of any type does.
func TestKinds(t *testing.T) {
	var kinds = [3]byte{compound.Report, compound.Feed, compound.Other}
	if kinds != [3]byte{1, 2, 3} {
		t.Errorf("Kinds: %v", kinds)
	}
}

// P10.1: bytes of items, written down one by one; and P10.2: they are read.
func TestBytesOfItems(t *testing.T) {
	for k, c := range []struct {
		l    []compound.Item
		want []byte
	}{
		{[]compound.Item{ofReport(report.Report{})}, []byte{128, 201, 0, 1, 0, 0, 0, 0}},
		{[]compound.Item{ofReport(report.Report{Source: 5})}, []byte{128, 201, 0, 1, 0, 0, 0, 5}},
		{
			[]compound.Item{ofReport(report.Report{Sender: true, Source: 5, Info: report.Info{Sec: 1, Frac: 2, Stamp: 3, Packets: 4, Octets: 5}})},
			[]byte{128, 200, 0, 6, 0, 0, 0, 5, 0, 0, 0, 1, 0, 0, 0, 2, 0, 0, 0, 3, 0, 0, 0, 4, 0, 0, 0, 5},
		},
		{
			[]compound.Item{ofReport(report.Report{Source: 5, Blocks: []report.Block{{Source: 6, Part: 7, Missing: -2, Delay: 8}}})},
			[]byte{129, 201, 0, 7, 0, 0, 0, 5, 0, 0, 0, 6, 7, 255, 255, 254, 0, 0, 0, 0, 0, 0, 0, 0, 0, 0, 0, 0, 0, 0, 0, 8},
		},
		{[]compound.Item{pli(7)}, []byte{129, 206, 0, 2, 0, 0, 0, 1, 0, 0, 0, 7}},
		{[]compound.Item{fir(8)}, []byte{132, 206, 0, 4, 0, 0, 0, 1, 0, 0, 0, 0, 0, 0, 0, 8, 3, 0, 0, 0}},
		{[]compound.Item{nack(7, 10, 12, 26, 27)}, []byte{129, 205, 0, 4, 0, 0, 0, 1, 0, 0, 0, 7, 0, 10, 128, 2, 0, 27, 0, 0}},
		{[]compound.Item{ofChunk(0, 0)}, []byte{128, 0, 0, 0}},
		{[]compound.Item{ofChunk(203, 31, 1, 2, 3, 4)}, []byte{159, 203, 0, 1, 1, 2, 3, 4}},
		// Of the Types of messages, but with another Count: that is Other, whatever its Body is.
		{[]compound.Item{ofChunk(206, 2, 1, 2, 3, 4)}, []byte{130, 206, 0, 1, 1, 2, 3, 4}},
		{[]compound.Item{ofChunk(205, 4, 0, 0, 0, 1, 0, 0, 0, 0)}, []byte{132, 205, 0, 2, 0, 0, 0, 1, 0, 0, 0, 0}},
		{
			[]compound.Item{ofReport(report.Report{Source: 5}), pli(7), ofChunk(203, 1, 0, 0, 0, 5)},
			[]byte{128, 201, 0, 1, 0, 0, 0, 5, 129, 206, 0, 2, 0, 0, 0, 1, 0, 0, 0, 7, 129, 203, 0, 1, 0, 0, 0, 5},
		},
		{
			[]compound.Item{ofChunk(203, 1, 0, 0, 0, 5), pli(7), ofReport(report.Report{Source: 5})},
			[]byte{129, 203, 0, 1, 0, 0, 0, 5, 129, 206, 0, 2, 0, 0, 0, 1, 0, 0, 0, 7, 128, 201, 0, 1, 0, 0, 0, 5},
		},
	} {
		if got, e := compound.Write(c.l); !bytes.Equal(got, c.want) || e != api.OK {
			t.Errorf("case %d: %v, %d; want %v", k, got, e, c.want)
		}
		if l, e := compound.Read(c.want); !same(l, c.l) || e != api.OK {
			t.Errorf("case %d comes back as %v, %d", k, l, e)
		}
		for _, x := range c.l {
			if !compound.Right(x) {
				t.Errorf("case %d: %v may not be", k, x)
			}
		}
		checkWrite(t, c.l)
		checkRead(t, c.want)
	}
	if b, e := compound.Write(nil); len(b) != 0 || e != api.OK {
		t.Errorf("no items: %v, %d", b, e)
	}
}

// P10.1: items that may be, though something looks as if they may not.
func TestRightItems(t *testing.T) {
	for k, x := range []compound.Item{
		// An empty list is none (R6).
		{Kind: 1, Report: report.Report{Blocks: []report.Block{}}, Feed: feed.Msg{Asks: []feed.Ask{}, Lost: []uint16{}}, Other: chunk.Chunk{Body: []byte{}}},
		{Kind: 2, Report: report.Report{Blocks: []report.Block{}}, Feed: feed.Msg{Kind: 1, Asks: []feed.Ask{}, Lost: []uint16{}}, Other: chunk.Chunk{Body: []byte{}}},
		{Kind: 3, Report: report.Report{Blocks: []report.Block{}}, Feed: feed.Msg{Asks: []feed.Ask{}, Lost: []uint16{}}, Other: chunk.Chunk{Body: []byte{}}},
		// A zero report and a zero chunk may be, each as an item of its Kind.
		{Kind: 1},
		{Kind: 3},
		receiver(8),
		sender(7),
		ofReport(report.Report{Sender: true}),
		ofReport(report.Report{Blocks: []report.Block{{Missing: 1<<23 - 1}, {Missing: -1 << 23}}}),
		fir(make([]uint32, 23)...),
		nack(0, 65535, 0),
		ofChunk(199, 1),
		ofChunk(202, 1),
		ofChunk(204, 1),
		ofChunk(205, 0, make([]byte, 12)...),
		ofChunk(205, 2, make([]byte, 12)...),
		ofChunk(205, 4, make([]byte, 16)...),
		ofChunk(206, 0, make([]byte, 8)...),
		ofChunk(206, 2, make([]byte, 8)...),
		ofChunk(206, 3, make([]byte, 16)...),
		ofChunk(206, 5, make([]byte, 16)...),
		ofChunk(207, 4, make([]byte, 16)...),
		ofChunk(255, 31, row(196)...),
	} {
		if !compound.Right(x) {
			t.Errorf("case %d: %v", k, x)
		}
		if _, e := compound.Write([]compound.Item{x}); e != api.OK {
			t.Errorf("case %d: %v, %d", k, x, e)
		}
		checkWrite(t, []compound.Item{x})
	}
}

// P10.1: items that may not be, written down one by one.
func TestWrongItems(t *testing.T) {
	for k, x := range []compound.Item{
		{},
		{Kind: -1},
		{Kind: 4},
		{Kind: 257},
		{Kind: 1<<32 + 1},
		{Kind: math.MaxInt},
		{Kind: math.MinInt},
		{Report: report.Report{Source: 1}},
		{Feed: feed.Msg{Kind: 1}},
		{Other: chunk.Chunk{Type: 203}},
		// A message has no zero one that may be.
		{Kind: 2},
		ofReport(report.Report{Info: report.Info{Octets: 1}}),
		ofReport(report.Report{Blocks: []report.Block{{Missing: 1 << 23}}}),
		ofReport(report.Report{Blocks: []report.Block{{Missing: -1<<23 - 1}}}),
		receiver(9),
		sender(8),
		ofMsg(feed.Msg{Kind: 4}),
		ofMsg(feed.Msg{Kind: 2}),
		ofMsg(feed.Msg{Kind: 3}),
		ofMsg(feed.Msg{Kind: 1, Lost: []uint16{1}}),
		nack(7, 2, 1),
		fir(make([]uint32, 24)...),
		ofChunk(203, 32),
		ofChunk(203, 255),
		ofChunk(203, 1, 1),
		ofChunk(203, 1, 1, 2, 3),
		ofChunk(203, 1, row(200)...),
		ofChunk(203, 1, row(1<<20)...),
		ofChunk(200, 0),
		ofChunk(201, 0),
		ofChunk(201, 0, 0, 0, 0, 5),
		ofChunk(201, 31),
		ofChunk(205, 1),
		ofChunk(206, 1),
		ofChunk(206, 1, 0, 0, 0, 1, 0, 0, 0, 2),
		ofChunk(206, 4),
	} {
		if b, e := compound.Write([]compound.Item{x}); compound.Right(x) || e != api.ErrArg || len(b) != 0 {
			t.Errorf("case %d: %v, %v, %d", k, x, b, e)
		}
		checkWrite(t, []compound.Item{x})
	}
}

// P10.1: what isn't of its Kind, but is there: each part of each of the others, one by one, at each Kind.
func TestWhatIsNotOfItsKind(t *testing.T) {
	reports := []report.Report{
		{Sender: true},
		{Source: 1},
		{Source: 1 << 31},
		{Sender: true, Info: report.Info{Sec: 1}},
		{Info: report.Info{Sec: 1}},
		{Info: report.Info{Frac: 1}},
		{Info: report.Info{Stamp: 1}},
		{Info: report.Info{Packets: 1}},
		{Info: report.Info{Octets: 1}},
		{Blocks: make([]report.Block, 1)},
		{Blocks: make([]report.Block, 9)},
	}
	msgs := []feed.Msg{
		{Kind: 1}, {Kind: -1}, {Kind: 4}, {Sender: 1}, {Sender: 1 << 31}, {Media: 1}, {Media: 1 << 31},
		{Asks: make([]feed.Ask, 1)}, {Lost: make([]uint16, 1)}, {Kind: 2, Asks: make([]feed.Ask, 1)}, {Kind: 3, Lost: make([]uint16, 1)},
	}
	chunks := []chunk.Chunk{
		{Count: 1}, {Count: 32}, {Type: 1}, {Type: 200}, {Type: 206}, {Body: make([]byte, 1)}, {Body: make([]byte, 4)}, {Count: 1, Type: 206, Body: make([]byte, 8)},
	}
	type fill struct {
		kind int
		into func(x *compound.Item)
	}
	var fills []fill
	for _, r := range reports {
		fills = append(fills, fill{1, func(x *compound.Item) { x.Report = r }})
	}
	for _, m := range msgs {
		fills = append(fills, fill{2, func(x *compound.Item) { x.Feed = m }})
	}
	for _, c := range chunks {
		fills = append(fills, fill{3, func(x *compound.Item) { x.Other = c }})
	}
	for _, x := range []compound.Item{{}, receiver(1), sender(1), pli(7), fir(8), nack(9, 1), ofChunk(203, 1, row(4)...)} {
		for kind := -1; kind < 6; kind++ {
			x.Kind = kind
			checkWrite(t, []compound.Item{x})
			for _, f := range fills {
				y := x
				f.into(&y)
				if kind != f.kind && compound.Right(y) {
					t.Errorf("%v may be", y)
				}
				checkWrite(t, []compound.Item{y})
			}
		}
	}
}

// P10.1, P10.2: each Type and Count, with some Bodies, as an item's chunk, and as bytes.
func TestEachTypeAndCount(t *testing.T) {
	bodies := [][]byte{nil, make([]byte, 4), make([]byte, 8), make([]byte, 12), make([]byte, 16), row(28), row(196)}
	for kind := range 256 {
		for count := range 256 {
			for _, b := range bodies {
				x := ofChunk(byte(kind), byte(count), b...)
				want := count < 32 && typed(byte(kind), byte(count)) == 3
				if compound.Right(x) != want {
					t.Fatalf("Right(%v): %v", x, !want)
				}
				checkWrite(t, []compound.Item{x})
				if count < 32 {
					checkRead(t, raw(byte(kind), byte(count), b...))
				}
			}
		}
	}
}

// P10.1: one item that may not be, at each place, is told ahead of bytes that are too many.
func TestPlaceOfWrongItem(t *testing.T) {
	wrong := []compound.Item{{}, {Kind: 2}, receiver(9), nack(1, 5, 5), ofChunk(200, 0), ofChunk(203, 1, row(200)...)}
	for size := 1; size < 80; size += 6 {
		for place := range size {
			l := slices.Repeat([]compound.Item{pli(7)}, size)
			l[place] = wrong[place%len(wrong)]
			if b, e := compound.Write(l); e != api.ErrArg || len(b) != 0 {
				t.Fatalf("%d of %d: %v, %d", place, size, b, e)
			}
			checkWrite(t, l)
		}
	}
}

// P10.1: as many bytes as may be, and four more.
func TestManyBytes(t *testing.T) {
	for k, c := range []struct {
		l    []compound.Item
		size int
	}{
		{[]compound.Item{receiver(8)}, 200},
		{[]compound.Item{sender(7)}, 196},
		{[]compound.Item{sender(7), ofChunk(203, 0)}, 200},
		{[]compound.Item{sender(7), ofChunk(203, 0, row(4)...)}, 204},
		{[]compound.Item{receiver(8), ofChunk(203, 0)}, 204},
		{[]compound.Item{ofChunk(203, 0), receiver(8)}, 204},
		{slices.Repeat([]compound.Item{ofChunk(0, 0)}, 50), 200},
		{slices.Repeat([]compound.Item{ofChunk(0, 0)}, 51), 204},
		{slices.Repeat([]compound.Item{pli(7)}, 16), 192},
		{slices.Repeat([]compound.Item{pli(7)}, 17), 204},
		{slices.Repeat([]compound.Item{fir(8)}, 10), 200},
		{slices.Repeat([]compound.Item{fir(8)}, 11), 220},
		{slices.Repeat([]compound.Item{receiver(8)}, 1000), 200000},
		{slices.Repeat([]compound.Item{ofChunk(0, 0)}, 100000), 400000},
	} {
		b, e := compound.Write(c.l)
		if c.size <= 200 && (e != api.OK || len(b) != c.size) || c.size > 200 && (e != api.ErrLong || len(b) != 0) {
			t.Errorf("case %d: %d bytes, %d; want %d", k, len(b), e, c.size)
		}
		if len(c.l) < 1000 {
			checkWrite(t, c.l)
		}
	}
}

// P10.2: bytes and what is told of them, written down one by one.
func TestReadTable(t *testing.T) {
	receiver, other := []byte{128, 201, 0, 1, 0, 0, 0, 5}, []byte{128, 203, 0, 0}
	for k, c := range []struct {
		b    [][]byte
		want []compound.Item
		e    api.Errno
	}{
		// chunk.Split's errors.
		{nil, nil, api.ErrShort},
		{[][]byte{{128, 201, 0}}, nil, api.ErrShort},
		{[][]byte{{128, 201, 0, 1, 0, 0, 0}}, nil, api.ErrShort},
		{[][]byte{{64, 201, 0, 0}}, nil, api.ErrForm},
		{[][]byte{make([]byte, 201)}, nil, api.ErrLong},
		{[][]byte{raw(203, 0, row(196)...), other}, nil, api.ErrLong},
		{[][]byte{{160, 203, 0, 1, 0, 0, 0, 4}, other}, nil, api.ErrForm},
		{[][]byte{{160, 203, 0, 1, 0, 0, 0, 5}}, nil, api.ErrForm},
		// They are told ahead of a report's and a message's, even of chunks left of what is wrong.
		{[][]byte{{128, 201, 0, 0}, {64, 203, 0, 0}}, nil, api.ErrForm},
		{[][]byte{{129, 205, 0, 2, 0, 0, 0, 0, 0, 0, 0, 0}, {128, 203, 0}}, nil, api.ErrShort},
		{[][]byte{{129, 205, 0, 2, 0, 0, 0, 0, 0, 0, 0, 0}, make([]byte, 200)}, nil, api.ErrLong},
		{[][]byte{{128, 201, 0, 0}, {160, 203, 0, 0}}, nil, api.ErrForm},
		// Reports' errors.
		{[][]byte{{128, 200, 0, 0}}, nil, api.ErrShort},
		{[][]byte{{128, 200, 0, 5}, make([]byte, 20)}, nil, api.ErrShort},
		{[][]byte{{128, 201, 0, 0}}, nil, api.ErrShort},
		{[][]byte{{129, 201, 0, 1, 0, 0, 0, 5}}, nil, api.ErrShort},
		{[][]byte{{159, 201, 0, 1, 0, 0, 0, 5}}, nil, api.ErrShort},
		{[][]byte{{128, 201, 0, 2, 0, 0, 0, 5, 0, 0, 0, 0}}, nil, api.ErrLong},
		{[][]byte{{128, 200, 0, 7}, make([]byte, 28)}, nil, api.ErrLong},
		// Messages' errors.
		{[][]byte{{129, 206, 0, 1, 0, 0, 0, 1}}, nil, api.ErrShort},
		{[][]byte{{129, 206, 0, 3, 0, 0, 0, 1, 0, 0, 0, 2, 0, 0, 0, 0}}, nil, api.ErrLong},
		{[][]byte{{132, 206, 0, 0}}, nil, api.ErrShort},
		{[][]byte{{132, 206, 0, 2, 0, 0, 0, 1, 0, 0, 0, 0}}, nil, api.ErrForm},
		{[][]byte{{132, 206, 0, 4, 0, 0, 0, 1, 0, 0, 0, 2, 0, 0, 0, 3, 4, 0, 0, 0}}, nil, api.ErrForm},
		{[][]byte{{129, 205, 0, 1, 0, 0, 0, 1}}, nil, api.ErrShort},
		{[][]byte{{129, 205, 0, 2, 0, 0, 0, 1, 0, 0, 0, 2}}, nil, api.ErrForm},
		{[][]byte{{129, 205, 0, 4, 0, 0, 0, 1, 0, 0, 0, 2, 0, 5, 0, 0, 0, 4, 0, 0}}, nil, api.ErrForm},
		// The first error is told, whatever stands ahead of it or behind it.
		{[][]byte{receiver, other, {128, 201, 0, 0}, other, receiver}, nil, api.ErrShort},
		{[][]byte{{128, 201, 0, 0}, {129, 205, 0, 2, 0, 0, 0, 1, 0, 0, 0, 2}}, nil, api.ErrShort},
		{[][]byte{{129, 205, 0, 2, 0, 0, 0, 1, 0, 0, 0, 2}, {128, 201, 0, 0}}, nil, api.ErrForm},
		{[][]byte{{128, 201, 0, 2, 0, 0, 0, 5, 0, 0, 0, 0}, {128, 201, 0, 0}}, nil, api.ErrLong},
		{[][]byte{receiver, {128, 201, 0, 2, 0, 0, 0, 5, 0, 0, 0, 0}, {129, 205, 0, 2, 0, 0, 0, 1, 0, 0, 0, 2}, {129, 206, 0, 0}}, nil, api.ErrLong},
		// Other chunks have no errors of their own.
		{[][]byte{other}, []compound.Item{ofChunk(203, 0)}, api.OK},
		{[][]byte{{130, 206, 0, 0}, other}, []compound.Item{ofChunk(206, 2), ofChunk(203, 0)}, api.OK},
		{[][]byte{{132, 205, 0, 0}, {128, 205, 0, 0}}, []compound.Item{ofChunk(205, 4), ofChunk(205, 0)}, api.OK},
		// The last chunk may be padded: what fills it up belongs to none.
		{[][]byte{receiver, {160, 203, 0, 2, 1, 2, 3, 4, 0, 0, 0, 4}}, []compound.Item{ofReport(report.Report{Source: 5}), ofChunk(203, 0, 1, 2, 3, 4)}, api.OK},
		{[][]byte{{160, 203, 0, 2, 1, 2, 3, 4, 0, 0, 0, 8}}, []compound.Item{ofChunk(203, 0)}, api.OK},
		{[][]byte{{160, 201, 0, 2, 0, 0, 0, 5, 0, 0, 0, 4}}, []compound.Item{ofReport(report.Report{Source: 5})}, api.OK},
		{[][]byte{{160, 201, 0, 2, 0, 0, 0, 5, 0, 0, 0, 8}}, nil, api.ErrShort},
		{[][]byte{{161, 206, 0, 3, 0, 0, 0, 1, 0, 0, 0, 7, 9, 9, 9, 4}}, []compound.Item{pli(7)}, api.OK},
		{[][]byte{{161, 205, 0, 3, 0, 0, 0, 1, 0, 0, 0, 7, 9, 9, 9, 4}}, nil, api.ErrForm},
		// What a message's bytes may say in more than one way.
		{[][]byte{{132, 206, 0, 4, 0, 0, 0, 1, 0, 0, 0, 0, 0, 0, 0, 8, 3, 9, 9, 9}}, []compound.Item{fir(8)}, api.OK},
		{[][]byte{{129, 205, 0, 4, 0, 0, 0, 1, 0, 0, 0, 7, 0, 10, 0, 0, 0, 11, 0, 1}}, []compound.Item{nack(7, 10, 11, 12)}, api.OK},
	} {
		b := bytes.Join(c.b, nil)
		if l, e := compound.Read(b); !same(l, c.want) || e != c.e {
			t.Errorf("case %d: %v, %d; want %v, %d", k, l, e, c.want, c.e)
		}
		checkRead(t, b)
	}
}

// P10.2: of each three chunks the first error is told.
func TestFirstError(t *testing.T) {
	type part struct {
		b []byte
		e api.Errno
	}
	parts := []part{
		{raw(201, 0, 0, 0, 0, 5), api.OK},
		{raw(206, 1, 0, 0, 0, 1, 0, 0, 0, 7), api.OK},
		{raw(203, 1, 0, 0, 0, 5), api.OK},
		{raw(201, 0), api.ErrShort},
		{raw(201, 0, make([]byte, 8)...), api.ErrLong},
		{raw(200, 0, make([]byte, 28)...), api.ErrLong},
		{raw(206, 1, make([]byte, 4)...), api.ErrShort},
		{raw(206, 1, make([]byte, 12)...), api.ErrLong},
		{raw(206, 4, make([]byte, 8)...), api.ErrForm},
		{raw(205, 1, make([]byte, 8)...), api.ErrForm},
	}
	for n := range 1000 {
		var all []byte
		want := api.OK
		for _, p := range []part{parts[n/100], parts[n/10%10], parts[n%10]} {
			all = append(all, p.b...)
			if want == api.OK {
				want = p.e
			}
		}
		l, e := compound.Read(all)
		if e != want || e == api.OK && len(l) != 3 || e != api.OK && len(l) != 0 {
			t.Errorf("Read(%v): %v, %d; want %d", all, l, e, want)
		}
		checkRead(t, all)
	}
}

// P10.2: bytes of items that are cut at each place, and of which each byte is another one.
func TestCutAndChanged(t *testing.T) {
	for _, l := range lists() {
		b, _ := compound.Write(l)
		for size := range b {
			checkRead(t, b[:size])
			for _, n := range []byte{0, 1, 2, 4, 128, 129, 160, 200, 201, 205, 206, 255} {
				c := bytes.Clone(b)
				c[size] = n
				checkRead(t, c)
			}
		}
		for size := range 210 - len(b) {
			checkRead(t, append(bytes.Clone(b), make([]byte, size)...))
			checkRead(t, append(bytes.Clone(b), row(size)...))
		}
	}
}

// P10.3: the chapter's example, and others, written down one by one.
func TestAsked(t *testing.T) {
	for k, c := range []struct {
		l    []compound.Item
		want []uint32
	}{
		{nil, nil},
		{[]compound.Item{receiver(1), pli(7), fir(8, 9)}, []uint32{7, 8, 9}},
		{[]compound.Item{fir(8, 9), sender(1), pli(7)}, []uint32{8, 9, 7}},
		{[]compound.Item{pli(7), nack(6, 1, 2), pli(7), ofChunk(203, 1), fir(9, 7, 9)}, []uint32{7, 7, 9, 7, 9}},
		{[]compound.Item{pli(0), fir(0), pli(math.MaxUint32)}, []uint32{0, 0, math.MaxUint32}},
		{[]compound.Item{receiver(8), sender(7), nack(7, 1), ofChunk(203, 1, 0, 0, 0, 7)}, nil},
		// Items that may not be: their Kinds say what they are.
		{[]compound.Item{{Kind: 1, Feed: pli(7).Feed}, {Kind: 3, Feed: pli(7).Feed}, {Feed: pli(7).Feed}, {Kind: 4, Feed: fir(8).Feed}, {Kind: 1, Feed: fir(8).Feed}}, nil},
		{[]compound.Item{{Kind: 2, Feed: pli(7).Feed, Report: report.Report{Source: 9}}, {Kind: 2, Feed: fir(8).Feed, Other: chunk.Chunk{Type: 200}}}, []uint32{7, 8}},
		{[]compound.Item{ofMsg(feed.Msg{Kind: 1, Media: 7, Asks: []feed.Ask{{Source: 8}}, Lost: []uint16{9}})}, []uint32{7}},
		{[]compound.Item{ofMsg(feed.Msg{Kind: 2, Media: 7, Asks: []feed.Ask{{Source: 8}}, Lost: []uint16{9}})}, []uint32{8}},
		{[]compound.Item{ofMsg(feed.Msg{Kind: 3, Media: 7, Asks: []feed.Ask{{Source: 8}}, Lost: []uint16{9}})}, nil},
		{[]compound.Item{ofMsg(feed.Msg{Media: 7, Asks: []feed.Ask{{Source: 8}}}), ofMsg(feed.Msg{Kind: 4, Media: 7, Asks: []feed.Ask{{Source: 8}}}), ofMsg(feed.Msg{Kind: -1, Media: 7})}, nil},
		{[]compound.Item{ofMsg(feed.Msg{Kind: 2, Media: 7}), fir()}, nil},
		{[]compound.Item{fir(row32(30)...)}, row32(30)},
	} {
		if got := compound.Asked(c.l); !slices.Equal(got, c.want) {
			t.Errorf("case %d: %v; want %v", k, got, c.want)
		}
		checkTold(t, c.l)
	}
}

// row32 tells so many numbers, none like its neighbours.
func row32(count int) []uint32 {
	var l []uint32
	for k := range count {
		l = append(l, ^uint32(k)<<(k%9))
	}
	return l
}

// P10.3: how many numbers are lost, written down one by one.
func TestLost(t *testing.T) {
	all := []compound.Item{nack(7, 1, 2, 40), pli(7), nack(8, 1), receiver(1), nack(7, 2), ofChunk(203, 1), fir(7), nack(0, 1, 2), nack(7, 1, 2, 40), nack(math.MaxUint32, 9, 10, 11, 12)}
	for media, want := range map[uint32]int{7: 7, 8: 1, 0: 2, math.MaxUint32: 4, 1: 0, 9: 0, 263: 0, 1<<31 + 7: 0} {
		if got := compound.Lost(all, media); got != want {
			t.Errorf("of %d: %d; want %d", media, got, want)
		}
	}
	lost := []uint16{9, 8, 8}
	for k, c := range []struct {
		x    compound.Item
		want int
	}{
		// Items that may not be: their Kinds say what they are, and what their Lost holds is told.
		{compound.Item{Kind: 1, Feed: nack(7, lost...).Feed}, 0},
		{compound.Item{Kind: 3, Feed: nack(7, lost...).Feed}, 0},
		{compound.Item{Kind: 0, Feed: nack(7, lost...).Feed}, 0},
		{compound.Item{Kind: 4, Feed: nack(7, lost...).Feed}, 0},
		{compound.Item{Kind: 2, Feed: nack(7, lost...).Feed, Report: report.Report{Source: 8}, Other: chunk.Chunk{Type: 200}}, 3},
		{ofMsg(feed.Msg{Kind: 3, Media: 7, Lost: lost, Asks: []feed.Ask{{Source: 7}}}), 3},
		{ofMsg(feed.Msg{Kind: 3, Media: 8, Sender: 7, Lost: lost}), 0},
		{ofMsg(feed.Msg{Kind: 1, Media: 7, Lost: lost}), 0},
		{ofMsg(feed.Msg{Kind: 2, Media: 7, Lost: lost}), 0},
		{ofMsg(feed.Msg{Kind: 4, Media: 7, Lost: lost}), 0},
		{ofMsg(feed.Msg{Media: 7, Lost: lost}), 0},
		{nack(7), 0},
		{nack(7, make([]uint16, 1<<20)...), 1 << 20},
	} {
		if got := compound.Lost([]compound.Item{c.x}, 7); got != c.want {
			t.Errorf("case %d: %d; want %d", k, got, c.want)
		}
	}
	if compound.Lost(nil, 0) != 0 {
		t.Error("of no items")
	}
	checkTold(t, all)
}

// anyItem tells an item without a pattern, that mostly may be.
func anyItem(next func(below int) int) compound.Item {
	some := func() uint32 { return uint32(next(6)) }
	var x compound.Item
	switch next(6) {
	case 0:
		x = receiver(next(3))
		x.Report.Source = some()
	case 1:
		x = sender(next(2))
		x.Report.Source = some()
	case 2:
		x = pli(some())
	case 3:
		x = fir(row32(1 + next(3))...)
		x.Feed.Asks[0].Source = some()
	case 4:
		n := next(65536)
		x = nack(some())
		for range 1 + next(9) {
			n += 1 + next(30)
			x.Feed.Lost = append(x.Feed.Lost, uint16(n))
		}
	case 5:
		types := []byte{202, 203, 204, 205, 206, 207, byte(next(256))}
		x = ofChunk(types[next(len(types))], byte(next(32)), row(4*next(5))...)
	}
	switch next(120) {
	case 0:
		x.Kind = next(5)
	case 1:
		x.Report.Source++
	case 2:
		x.Feed.Kind = next(5)
	case 3:
		x.Feed.Lost = append(x.Feed.Lost, uint16(next(65536)))
	case 4:
		x.Other.Count += byte(next(40))
	}
	return x
}

// P10.4: items without a pattern come back from their bytes, and so do those of two rows, one behind the other.
func TestItemsComeBack(t *testing.T) {
	next := noise()
	rows := lists()
	for range 30000 {
		var l []compound.Item
		for range next(9) {
			l = append(l, anyItem(next))
		}
		rows = append(rows, l)
	}
	var last []byte
	var ahead []compound.Item
	for _, l := range rows {
		checkWrite(t, l)
		b, e := compound.Write(l)
		if e != api.OK || len(b) == 0 {
			continue
		}
		if len(last)+len(b) <= mostBody {
			both := append(bytes.Clone(last), b...)
			if m, e := compound.Read(both); !same(m, slices.Concat(ahead, l)) || e != api.OK {
				t.Fatalf("Read(%v): %v, %d; want %v and %v", both, m, e, ahead, l)
			}
		}
		last, ahead = b, l
	}
}

// P10.2, P10.4: bytes without a pattern, but such as are often chunks', are read as the chapter says.
func TestAnyBytes(t *testing.T) {
	next := noise()
	types := []byte{200, 201, 201, 202, 205, 206, 206, 206}
	for range 60000 {
		var b []byte
		for range 1 + next(5) {
			size := next(9)
			b = append(b, 128+byte(next(6)), types[next(len(types))], 0, byte(size))
			if next(30) == 0 {
				b[len(b)-4] = byte(next(256))
			}
			for range 4 * size {
				b = append(b, byte(next(2)*next(2)*next(256)))
			}
		}
		if next(6) == 0 {
			b = b[:next(len(b)+1)]
		}
		checkRead(t, b)
	}
}

// R1: rows and lists far longer than may be are told of soon.
func TestLongLists(t *testing.T) {
	long := slices.Repeat([]compound.Item{nack(7, 1, 2)}, 1<<17)
	if b, e := compound.Write(long); e != api.ErrLong || len(b) != 0 {
		t.Errorf("%d bytes, %d", len(b), e)
	}
	if got := compound.Lost(long, 7); got != 1<<18 {
		t.Errorf("Lost: %d", got)
	}
	long = append(long, compound.Item{})
	if b, e := compound.Write(long); e != api.ErrArg || len(b) != 0 {
		t.Errorf("%d bytes, %d", len(b), e)
	}
	x := fir(make([]uint32, 1<<20)...)
	if got := compound.Asked([]compound.Item{x, x}); compound.Right(x) || len(got) != 1<<21 {
		t.Errorf("Asked: %d", len(got))
	}
	if _, e := compound.Read(make([]byte, 1<<24)); e != api.ErrLong {
		t.Errorf("many bytes: %d", e)
	}
}

// mixed tells items of each Kind, with all lists that there are.
func mixed() []compound.Item {
	return []compound.Item{receiver(2), fir(8, 9), nack(7, 1, 2, 40), ofChunk(202, 31, row(8)...), ofChunk(203, 1, row(4)...), fir(10)}
}

// wipe clears all that an item's lists hold, and what may stand behind it.
func wipe(x compound.Item) {
	clear(x.Report.Blocks)
	clear(x.Feed.Asks)
	clear(x.Feed.Lost)
	clear(x.Other.Body)
	clear(append(x.Other.Body, row(200)...)[len(x.Other.Body):])
}

// R3: what is told shares nothing with an argument, nor with another part of the answer, and arguments stay.
func TestNothingShared(t *testing.T) {
	l := mixed()
	b, _ := compound.Write(l)
	want := bytes.Clone(b)
	compound.Right(l[0])
	compound.Lost(l, 7)
	asked := compound.Asked(l)
	if !same(l, mixed()) {
		t.Error("items are changed")
	}
	clear(asked)
	clear(b)
	_ = append(b, 1, 2, 3, 4)
	if again, _ := compound.Write(l); !same(l, mixed()) || !bytes.Equal(again, want) {
		t.Error("what is told of items shares with them")
	}

	copy(b, want)
	m, _ := compound.Read(b)
	if !bytes.Equal(b, want) {
		t.Error("Read changed its bytes")
	}
	clear(b)
	if !same(m, l) {
		t.Error("items share with the bytes that they were read from")
	}
	copy(b, want)
	for k := range m {
		wipe(m[k])
		if !same(m[k+1:], l[k+1:]) {
			t.Errorf("item %d shares with those behind it", k)
		}
	}
	again, _ := compound.Read(b)
	if !bytes.Equal(b, want) || !same(again, l) {
		t.Error("what is told once is changed by what was told before")
	}
	for k := len(again) - 1; k >= 0; k-- {
		wipe(again[k])
		if !same(again[:k], l[:k]) {
			t.Errorf("item %d shares with those ahead of it", k)
		}
	}
}

// R4, R5: the same calls answer the same, whatever was called between them.
func TestSameAgain(t *testing.T) {
	for _, l := range lists() {
		b, e := compound.Write(l)
		m, f := compound.Read(b)
		compound.Write([]compound.Item{{}})
		compound.Write(slices.Repeat(mixed(), 9))
		compound.Read([]byte{128, 201, 0, 0})
		compound.Read(row(mostBody))
		if c, again := compound.Write(l); !bytes.Equal(b, c) || e != again {
			t.Errorf("%v, %d, then %v, %d", b, e, c, again)
		}
		if n, again := compound.Read(b); !same(m, n) || f != again {
			t.Errorf("%v, %d, then %v, %d", m, f, n, again)
		}
	}
}
