package report_test

import (
	"bytes"
	"math"
	"slices"
	"testing"

	"manifold/api"
	"manifold/chunk"
	"manifold/report"
)

// The document's own numbers: of MostBody bytes a chunk's Body has 196 at most, and Missing goes from -2^23 to 2^23 less 1.
const (
	mostBody = 196
	least    = -8388608
	greatest = 8388607
)

// noise tells numbers that are the same at each run, but have no pattern of their own.
func noise() func(below int) int {
	n := uint64(88172645463325252)
	return func(below int) int {
		n ^= n << 13
		n ^= n >> 7
		n ^= n << 17
		return int(n >> 1 % uint64(below))
	}
}

// row tells so many bytes, none like its neighbours.
func row(size int) []byte {
	b := make([]byte, size)
	for k := range b {
		b[k] = byte(37*k + 11)
	}
	return b
}

// block makes a Block whose numbers are none like another.
func block(missing int32) report.Block {
	return report.Block{Source: 0x01020304, Part: 5, Missing: missing, High: 0x06070809, Jitter: 0x0a0b0c0d, Last: 0x0e0f1011, Delay: 0x12131415}
}

// info is an Info whose numbers are none like another.
var info = report.Info{Sec: 0x21222324, Frac: 0x25262728, Stamp: 0x292a2b2c, Packets: 0x2d2e2f30, Octets: 0x31323334}

// blocks tells so many Blocks, each with other numbers.
func blocks(count int) []report.Block {
	var l []report.Block
	for k := range count {
		n := uint32(k)
		l = append(l, report.Block{Source: n, Part: byte(k + 1), Missing: int32(2 - k), High: n << 8, Jitter: ^n, Last: n + 7, Delay: 3 * n})
	}
	return l
}

// of makes a report, with an Info if it is a Sender's.
func of(sender bool, l []report.Block) report.Report {
	r := report.Report{Sender: sender, Source: 0xfedcba98, Blocks: l}
	if sender {
		r.Info = info
	}
	return r
}

// same tells whether reports are the same; an empty list and none are (R6).
func same(r, s report.Report) bool {
	return r.Sender == s.Sender && r.Source == s.Source && r.Info == s.Info && slices.Equal(r.Blocks, s.Blocks)
}

// sameChunk tells whether chunks are the same; no bytes and none are (R6).
func sameChunk(c, d chunk.Chunk) bool {
	return c.Count == d.Count && c.Type == d.Type && bytes.Equal(c.Body, d.Body)
}

// rightSlowly tells whether a report may be, by the chapter's words.
func rightSlowly(r report.Report) bool {
	for _, b := range r.Blocks {
		if int64(b.Missing) < least || int64(b.Missing) > greatest {
			return false
		}
	}
	if r.Sender {
		return len(r.Blocks) <= 7
	}
	return len(r.Blocks) <= 8 && r.Info == report.Info{}
}

// four tells a number's four bytes, the highest first.
func four(n uint32) []byte {
	return []byte{byte(n / (1 << 24)), byte(n / (1 << 16) % 256), byte(n / 256 % 256), byte(n % 256)}
}

// writeSlowly tells what P8.1 says, part by part.
func writeSlowly(r report.Report) (chunk.Chunk, api.Errno) {
	if !rightSlowly(r) {
		return chunk.Chunk{}, api.ErrArg
	}
	parts := [][]byte{four(r.Source)}
	kind := byte(201)
	if r.Sender {
		kind = 200
		for _, n := range []uint32{r.Info.Sec, r.Info.Frac, r.Info.Stamp, r.Info.Packets, r.Info.Octets} {
			parts = append(parts, four(n))
		}
	}
	for _, b := range r.Blocks {
		missing := int64(b.Missing)
		if missing < 0 {
			missing += 1 << 24
		}
		parts = append(parts, four(b.Source), []byte{b.Part}, four(uint32(missing))[1:])
		for _, n := range []uint32{b.High, b.Jitter, b.Last, b.Delay} {
			parts = append(parts, four(n))
		}
	}
	return chunk.Chunk{Count: byte(len(r.Blocks)), Type: kind, Body: bytes.Join(parts, nil)}, api.OK
}

// numberAt tells the number of four bytes at a place.
func numberAt(b []byte, at int) uint32 {
	var n uint32
	for _, x := range b[at : at+4] {
		n = 256*n + uint32(x)
	}
	return n
}

// readSlowly tells what P8.2 says, by places in the Body.
func readSlowly(c chunk.Chunk) (report.Report, api.Errno) {
	b := c.Body
	if c.Count > 31 || len(b)%4 != 0 || len(b) > mostBody {
		return report.Report{}, api.ErrArg
	}
	ahead := map[byte]int{200: 24, 201: 4}[c.Type]
	want := ahead + 24*int(c.Count)
	switch {
	case ahead == 0:
		return report.Report{}, api.ErrNone
	case len(b) < want:
		return report.Report{}, api.ErrShort
	case len(b) > want:
		return report.Report{}, api.ErrLong
	}
	r := report.Report{Sender: c.Type == 200, Source: numberAt(b, 0)}
	if r.Sender {
		r.Info = report.Info{Sec: numberAt(b, 4), Frac: numberAt(b, 8), Stamp: numberAt(b, 12), Packets: numberAt(b, 16), Octets: numberAt(b, 20)}
	}
	for at := ahead; at < want; at += 24 {
		missing := int64(numberAt(b, at+4) % (1 << 24))
		if missing > greatest {
			missing -= 1 << 24
		}
		r.Blocks = append(r.Blocks, report.Block{
			Source: numberAt(b, at), Part: b[at+4], Missing: int32(missing),
			High: numberAt(b, at+8), Jitter: numberAt(b, at+12), Last: numberAt(b, at+16), Delay: numberAt(b, at+20),
		})
	}
	return r, api.OK
}

// checkWrite holds Right and Write against the slow answers, and what comes back from the chunk against the report (P8.3).
func checkWrite(t *testing.T, r report.Report) {
	t.Helper()
	if got := report.Right(r); got != rightSlowly(r) {
		t.Fatalf("Right(%v): %v", r, got)
	}
	want, wrong := writeSlowly(r)
	c, e := report.Write(r)
	if !sameChunk(c, want) || e != wrong {
		t.Fatalf("Write(%v): %v, %d; want %v, %d", r, c, e, want, wrong)
	}
	if e != api.OK {
		return
	}
	if !chunk.Right(c) {
		t.Fatalf("Write(%v): %v, which may not be", r, c)
	}
	if s, e := report.Read(c); !same(r, s) || e != api.OK {
		t.Fatalf("%v comes back from %v as %v, %d", r, c, s, e)
	}
}

// checkRead holds Read against the slow answer, and what comes back from the report against the chunk (P8.3).
func checkRead(t *testing.T, c chunk.Chunk) {
	t.Helper()
	want, wrong := readSlowly(c)
	r, e := report.Read(c)
	if !same(r, want) || e != wrong {
		t.Fatalf("Read(%v): %v, %d; want %v, %d", c, r, e, want, wrong)
	}
	if e != api.OK {
		return
	}
	if !report.Right(r) {
		t.Fatalf("Read(%v): %v, which may not be", c, r)
	}
	if d, e := report.Write(r); !sameChunk(c, d) || e != api.OK {
		t.Fatalf("%v comes back from %v as %v, %d", c, r, d, e)
	}
}

// P8.1: chunks of reports, written down one by one; and P8.2: they are read.
func TestChunksOfReports(t *testing.T) {
	for k, c := range []struct {
		r    report.Report
		want chunk.Chunk
	}{
		{report.Report{}, chunk.Chunk{Type: 201, Body: []byte{0, 0, 0, 0}}},
		{report.Report{Source: 5}, chunk.Chunk{Type: 201, Body: []byte{0, 0, 0, 5}}},
		{report.Report{Source: 5, Blocks: []report.Block{}}, chunk.Chunk{Type: 201, Body: []byte{0, 0, 0, 5}}},
		{report.Report{Source: math.MaxUint32}, chunk.Chunk{Type: 201, Body: []byte{255, 255, 255, 255}}},
		{report.Report{Sender: true}, chunk.Chunk{Type: 200, Body: make([]byte, 24)}},
		{report.Report{Sender: true, Source: 0x01020304}, chunk.Chunk{Type: 200, Body: append([]byte{1, 2, 3, 4}, make([]byte, 20)...)}},
		{
			report.Report{Sender: true, Source: 1, Info: report.Info{Sec: 2, Frac: 3, Stamp: 4, Packets: 5, Octets: 6}},
			chunk.Chunk{Type: 200, Body: []byte{0, 0, 0, 1, 0, 0, 0, 2, 0, 0, 0, 3, 0, 0, 0, 4, 0, 0, 0, 5, 0, 0, 0, 6}},
		},
		{
			report.Report{Source: 9, Blocks: []report.Block{block(-2)}},
			chunk.Chunk{Count: 1, Type: 201, Body: []byte{0, 0, 0, 9, 1, 2, 3, 4, 5, 255, 255, 254, 6, 7, 8, 9, 10, 11, 12, 13, 14, 15, 16, 17, 18, 19, 20, 21}},
		},
		{
			report.Report{Sender: true, Source: 9, Info: info, Blocks: []report.Block{block(0x010203)}},
			chunk.Chunk{Count: 1, Type: 200, Body: []byte{
				0, 0, 0, 9, 33, 34, 35, 36, 37, 38, 39, 40, 41, 42, 43, 44, 45, 46, 47, 48, 49, 50, 51, 52,
				1, 2, 3, 4, 5, 1, 2, 3, 6, 7, 8, 9, 10, 11, 12, 13, 14, 15, 16, 17, 18, 19, 20, 21,
			}},
		},
		{
			report.Report{Source: 9, Blocks: []report.Block{{Source: 1, Part: 255}, {Source: 2, Missing: -1}}},
			chunk.Chunk{Count: 2, Type: 201, Body: []byte{
				0, 0, 0, 9,
				0, 0, 0, 1, 255, 0, 0, 0, 0, 0, 0, 0, 0, 0, 0, 0, 0, 0, 0, 0, 0, 0, 0, 0,
				0, 0, 0, 2, 0, 255, 255, 255, 0, 0, 0, 0, 0, 0, 0, 0, 0, 0, 0, 0, 0, 0, 0, 0,
			}},
		},
	} {
		if got, e := report.Write(c.r); !sameChunk(got, c.want) || e != api.OK {
			t.Errorf("case %d: %v, %d; want %v", k, got, e, c.want)
		}
		if r, e := report.Read(c.want); !same(r, c.r) || e != api.OK {
			t.Errorf("case %d comes back as %v, %d", k, r, e)
		}
		checkWrite(t, c.r)
		checkRead(t, c.want)
	}
}

// P8.1: the edges of Missing, as three bytes and as none.
func TestMissing(t *testing.T) {
	for _, c := range []struct {
		missing int32
		want    []byte
	}{
		{0, []byte{0, 0, 0}},
		{1, []byte{0, 0, 1}},
		{-1, []byte{255, 255, 255}},
		{255, []byte{0, 0, 255}},
		{256, []byte{0, 1, 0}},
		{-256, []byte{255, 255, 0}},
		{65536, []byte{1, 0, 0}},
		{greatest - 1, []byte{127, 255, 254}},
		{greatest, []byte{127, 255, 255}},
		{least, []byte{128, 0, 0}},
		{least + 1, []byte{128, 0, 1}},
		{greatest + 1, nil},
		{least - 1, nil},
		{1 << 24, nil},
		{-1 << 24, nil},
		{1<<24 - 1, nil},
		{math.MaxInt32, nil},
		{math.MinInt32, nil},
	} {
		for _, sender := range []bool{false, true} {
			r := of(sender, []report.Block{block(c.missing)})
			if got := report.Right(r); got != (c.want != nil) {
				t.Errorf("Right of Missing %d: %v", c.missing, got)
			}
			made, e := report.Write(r)
			if c.want == nil && (e != api.ErrArg || !sameChunk(made, chunk.Chunk{})) {
				t.Errorf("Missing %d: %v, %d", c.missing, made, e)
			}
			if c.want != nil && (e != api.OK || !bytes.Equal(made.Body[len(made.Body)-19:len(made.Body)-16], c.want)) {
				t.Errorf("Missing %d: %v, %d; want %v", c.missing, made, e, c.want)
			}
			checkWrite(t, r)
		}
	}
}

// P8.1: a Missing that may not be, in each Block of each count; and one that just may be.
func TestMissingOfEachBlock(t *testing.T) {
	for _, sender := range []bool{false, true} {
		for count := range 10 {
			for k := range count {
				for _, missing := range []int32{least, least - 1, greatest, greatest + 1, math.MinInt32, math.MaxInt32} {
					l := blocks(count)
					l[k].Missing = missing
					checkWrite(t, of(sender, l))
				}
			}
		}
	}
}

// P8.1: how many Blocks may be: written down for each count, and far more than may be.
func TestCountOfBlocks(t *testing.T) {
	for count := range 40 {
		if got := report.Right(of(true, blocks(count))); got != (count < 8) {
			t.Errorf("Right of a Sender's with %d Blocks: %v", count, got)
		}
		if got := report.Right(of(false, blocks(count))); got != (count < 9) {
			t.Errorf("Right of no Sender's with %d Blocks: %v", count, got)
		}
	}
	for _, sender := range []bool{false, true} {
		for count := range 40 {
			checkWrite(t, of(sender, blocks(count)))
		}
		// A Count is one byte: counts that would go round to one that may be.
		for _, count := range []int{255, 256, 257, 263, 264, 1 << 16} {
			r := of(sender, make([]report.Block, count))
			if c, e := report.Write(r); report.Right(r) || e != api.ErrArg || !sameChunk(c, chunk.Chunk{}) {
				t.Errorf("%d Blocks: %d bytes, %d", count, len(c.Body), e)
			}
		}
	}
	// What a sender tells of itself isn't asked for: a zero Info may be.
	checkWrite(t, report.Report{Sender: true, Blocks: blocks(7)})
}

// P8.1: each number of Info is zero where it is no Sender's, and each may be of a Sender's.
func TestInfo(t *testing.T) {
	for _, n := range []uint32{1, 255, 256, 1 << 24, 1 << 31, math.MaxUint32} {
		for k, i := range []report.Info{{Sec: n}, {Frac: n}, {Stamp: n}, {Packets: n}, {Octets: n}} {
			for count := range 9 {
				r := report.Report{Source: 1, Info: i, Blocks: blocks(count)}
				if c, e := report.Write(r); report.Right(r) || e != api.ErrArg || !sameChunk(c, chunk.Chunk{}) {
					t.Errorf("no Sender's, with %v: %v, %d", i, c, e)
				}
				r.Sender = true
				if report.Right(r) != (count < 8) {
					t.Errorf("a Sender's, with %v and %d Blocks: %v", i, count, report.Right(r))
				}
				checkWrite(t, r)
			}
			c, _ := report.Write(report.Report{Sender: true, Info: i})
			if want := slices.Concat(make([]byte, 4+4*k), four(n), make([]byte, 16-4*k)); !bytes.Equal(c.Body, want) {
				t.Errorf("%v: %v; want %v", i, c.Body, want)
			}
		}
	}
}

// P8.1, P8.2: each bit of each number is where it ought to be: reports that have but one bit.
func TestEachBit(t *testing.T) {
	for bit := range 8 * mostBody {
		b := make([]byte, mostBody)
		b[bit/8] = 1 << (bit % 8)
		checkRead(t, chunk.Chunk{Count: 8, Type: 201, Body: b})
		checkRead(t, chunk.Chunk{Count: 7, Type: 200, Body: b[:mostBody-4]})
	}
	for bit := range 32 {
		n := uint32(1) << bit
		for _, r := range []report.Report{
			{Source: n},
			{Blocks: []report.Block{{Source: n}}},
			{Blocks: []report.Block{{Part: byte(n)}}},
			{Blocks: []report.Block{{Missing: int32(n)}}},
			{Blocks: []report.Block{{Missing: -int32(n)}}},
			{Blocks: []report.Block{{High: n}}},
			{Blocks: []report.Block{{Jitter: n}}},
			{Blocks: []report.Block{{Last: n}}},
			{Blocks: []report.Block{{Delay: n}}},
		} {
			checkWrite(t, r)
			r.Sender = true
			checkWrite(t, r)
		}
	}
}

// P8.2: what is wrong, written down one by one; of what is wrong twice the first one is told (R2).
func TestReadOfWrongChunks(t *testing.T) {
	for k, c := range []struct {
		c chunk.Chunk
		e api.Errno
	}{
		{chunk.Chunk{Count: 32, Type: 201, Body: make([]byte, 4)}, api.ErrArg},
		{chunk.Chunk{Count: 255, Type: 200, Body: make([]byte, 24)}, api.ErrArg},
		{chunk.Chunk{Type: 201, Body: make([]byte, 1)}, api.ErrArg},
		{chunk.Chunk{Type: 201, Body: make([]byte, 5)}, api.ErrArg},
		{chunk.Chunk{Type: 200, Body: make([]byte, 23)}, api.ErrArg},
		{chunk.Chunk{Type: 200, Body: make([]byte, 26)}, api.ErrArg},
		{chunk.Chunk{Count: 8, Type: 200, Body: make([]byte, 24+8*24)}, api.ErrArg},
		{chunk.Chunk{Count: 9, Type: 201, Body: make([]byte, 4+9*24)}, api.ErrArg},
		{chunk.Chunk{Count: 7, Type: 201, Body: make([]byte, 200)}, api.ErrArg},
		{chunk.Chunk{Count: 32, Type: 202, Body: make([]byte, 4)}, api.ErrArg},
		{chunk.Chunk{Type: 0, Body: make([]byte, 3)}, api.ErrArg},
		{chunk.Chunk{Type: 0, Body: make([]byte, 200)}, api.ErrArg},
		{chunk.Chunk{}, api.ErrNone},
		{chunk.Chunk{Count: 31}, api.ErrNone},
		{chunk.Chunk{Type: 199, Body: make([]byte, 24)}, api.ErrNone},
		{chunk.Chunk{Type: 202, Body: make([]byte, 4)}, api.ErrNone},
		{chunk.Chunk{Type: 202, Body: make([]byte, 8)}, api.ErrNone},
		{chunk.Chunk{Type: 203}, api.ErrNone},
		{chunk.Chunk{Count: 1, Type: 255, Body: make([]byte, 28)}, api.ErrNone},
		{chunk.Chunk{Count: 31, Type: 73, Body: make([]byte, mostBody)}, api.ErrNone},
		{chunk.Chunk{Type: 201}, api.ErrShort},
		{chunk.Chunk{Type: 200}, api.ErrShort},
		{chunk.Chunk{Type: 200, Body: make([]byte, 4)}, api.ErrShort},
		{chunk.Chunk{Type: 200, Body: make([]byte, 20)}, api.ErrShort},
		{chunk.Chunk{Count: 1, Type: 200, Body: make([]byte, 24)}, api.ErrShort},
		{chunk.Chunk{Count: 1, Type: 200, Body: make([]byte, 28)}, api.ErrShort},
		{chunk.Chunk{Count: 1, Type: 200, Body: make([]byte, 44)}, api.ErrShort},
		{chunk.Chunk{Count: 1, Type: 201, Body: make([]byte, 4)}, api.ErrShort},
		{chunk.Chunk{Count: 1, Type: 201, Body: make([]byte, 24)}, api.ErrShort},
		{chunk.Chunk{Count: 8, Type: 201, Body: make([]byte, mostBody-4)}, api.ErrShort},
		{chunk.Chunk{Count: 8, Type: 200, Body: make([]byte, mostBody)}, api.ErrShort},
		{chunk.Chunk{Count: 9, Type: 201, Body: make([]byte, mostBody)}, api.ErrShort},
		{chunk.Chunk{Count: 31, Type: 201, Body: make([]byte, mostBody)}, api.ErrShort},
		{chunk.Chunk{Type: 201, Body: make([]byte, 8)}, api.ErrLong},
		{chunk.Chunk{Type: 201, Body: make([]byte, 28)}, api.ErrLong},
		{chunk.Chunk{Type: 201, Body: make([]byte, mostBody)}, api.ErrLong},
		{chunk.Chunk{Type: 200, Body: make([]byte, 28)}, api.ErrLong},
		{chunk.Chunk{Type: 200, Body: make([]byte, 48)}, api.ErrLong},
		{chunk.Chunk{Count: 1, Type: 201, Body: make([]byte, 32)}, api.ErrLong},
		{chunk.Chunk{Count: 1, Type: 200, Body: make([]byte, 52)}, api.ErrLong},
		{chunk.Chunk{Count: 7, Type: 201, Body: make([]byte, 176)}, api.ErrLong},
		{chunk.Chunk{Count: 7, Type: 200, Body: make([]byte, mostBody)}, api.ErrLong},
	} {
		if r, e := report.Read(c.c); !same(r, report.Report{}) || e != c.e {
			t.Errorf("case %d: %v, %d; want %d", k, r, e, c.e)
		}
		checkRead(t, c.c)
	}
}

// P8.2: each Type that is a report's, or next to one, with each Count and each length of a Body, those that may not be among them.
func TestEachCountAndLength(t *testing.T) {
	all := row(mostBody + 30)
	for _, kind := range []byte{0, 72, 73, 199, 200, 201, 202, 255} {
		for count := range 40 {
			for size := range len(all) + 1 {
				checkRead(t, chunk.Chunk{Count: byte(count), Type: kind, Body: all[:size]})
			}
		}
	}
	for kind := range 256 {
		for _, count := range []byte{0, 1, 7, 8, 31, 32, 64, 128, 200, 255} {
			for _, size := range []int{0, 3, 4, 24, 28, 48, 192, 196, 200, 1 << 12} {
				checkRead(t, chunk.Chunk{Count: count, Type: byte(kind), Body: row(size)})
			}
		}
	}
}

// P8.2: a chunk of a report whose Body is cut, or goes on, is no report's.
func TestCutChunks(t *testing.T) {
	for _, sender := range []bool{false, true} {
		for count := range 8 {
			whole, _ := report.Write(of(sender, blocks(count)))
			for size := 0; size <= mostBody; size += 4 {
				c := whole
				c.Body = append(bytes.Clone(c.Body), make([]byte, mostBody)...)[:size]
				want := api.OK
				switch {
				case size < len(whole.Body):
					want = api.ErrShort
				case size > len(whole.Body):
					want = api.ErrLong
				}
				r, e := report.Read(c)
				if e != want || e != api.OK && !same(r, report.Report{}) {
					t.Fatalf("%v with %d bytes: %v, %d; want %d", whole, size, r, e, want)
				}
				checkRead(t, c)
			}
		}
	}
}

// anyReport tells a report without a pattern, that mostly may be.
func anyReport(next func(below int) int) report.Report {
	some := func() uint32 { return uint32(next(1<<32)) >> next(32) * uint32(next(4)) }
	r := report.Report{Sender: next(2) == 1, Source: some()}
	if r.Sender || next(20) == 0 {
		r.Info = report.Info{Sec: some(), Frac: some(), Stamp: some(), Packets: some(), Octets: some()}
	}
	for range next(10) {
		b := report.Block{Source: some(), Part: byte(some()), High: some(), Jitter: some(), Last: some(), Delay: some()}
		b.Missing = int32(next(1<<24)) + least
		if next(40) == 0 {
			b.Missing *= 2
		}
		r.Blocks = append(r.Blocks, b)
	}
	return r
}

// P8.3: reports without a pattern come back from their chunks; so they do by way of the chunks' bytes.
func TestReportsComeBack(t *testing.T) {
	next := noise()
	for range 30000 {
		r := anyReport(next)
		checkWrite(t, r)
		c, e := report.Write(r)
		if e != api.OK {
			continue
		}
		b, e := chunk.Join([]chunk.Chunk{c})
		if e != api.OK {
			t.Fatalf("Join of %v: %d", c, e)
		}
		l, e := chunk.Split(b)
		if e != api.OK || len(l) != 1 {
			t.Fatalf("Split of %v: %v, %d", b, l, e)
		}
		if s, e := report.Read(l[0]); !same(r, s) || e != api.OK {
			t.Fatalf("%v comes back from %v as %v, %d", r, b, s, e)
		}
	}
}

// P8.2, P8.3: chunks without a pattern, but such as are often reports', come back from their reports.
func TestChunksComeBack(t *testing.T) {
	next := noise()
	for range 50000 {
		c := chunk.Chunk{Count: byte(next(9)), Type: byte(199 + next(4))}
		size := 4 + 24*int(c.Count)
		if c.Type == 200 {
			size += 20
		}
		switch next(8) {
		case 0:
			size += 4
		case 1:
			size -= 4
		case 2:
			size += next(9) - 4
		}
		for range size {
			c.Body = append(c.Body, byte(next(256)*next(3)))
		}
		checkRead(t, c)
	}
}

// R3: what is told shares nothing with an argument, and arguments stay.
func TestNothingShared(t *testing.T) {
	for _, sender := range []bool{false, true} {
		r := of(sender, blocks(5))
		c, _ := report.Write(r)
		want := bytes.Clone(c.Body)
		if !same(r, of(sender, blocks(5))) {
			t.Error("Write changed its report")
		}
		clear(c.Body)
		_ = append(c.Body, 1, 2, 3, 4)
		if again, _ := report.Write(r); !same(r, of(sender, blocks(5))) || !bytes.Equal(again.Body, want) {
			t.Error("a chunk shares with the report that it was made of")
		}

		copy(c.Body, want)
		s, _ := report.Read(c)
		if !bytes.Equal(c.Body, want) {
			t.Error("Read changed its chunk")
		}
		clear(c.Body)
		if !same(s, r) {
			t.Error("a report shares with the chunk that it was read from")
		}
		copy(c.Body, want)
		clear(s.Blocks)
		if again, _ := report.Read(c); !bytes.Equal(c.Body, want) || !same(again, r) {
			t.Error("what is told once is changed by what was told before")
		}
	}
}

// R4, R5: the same calls answer the same, whatever was called between them.
func TestSameAgain(t *testing.T) {
	r := of(true, blocks(3))
	c, _ := report.Write(r)
	first, _ := report.Read(c)
	report.Write(of(false, blocks(8)))
	report.Write(of(false, blocks(9)))
	report.Read(chunk.Chunk{Count: 31, Type: 200, Body: row(mostBody)})
	report.Read(chunk.Chunk{Type: 7})
	if d, e := report.Write(r); !sameChunk(c, d) || e != api.OK {
		t.Errorf("%v, then %v, %d", c, d, e)
	}
	if again, e := report.Read(c); !same(first, again) || e != api.OK {
		t.Errorf("%v, then %v, %d", first, again, e)
	}
}
