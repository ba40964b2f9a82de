package head_test

import (
	"bytes"
	"math"
	"slices"
	"testing"

	"manifold/api"
	"manifold/head"
)

// most is how many bytes a datagram may have, by the document's own number.
const most = 200

// noise tells numbers that are the same at each run, but have no pattern of their own.
func noise() func(below int) int {
	n := uint64(88172645463325252)
	return func(below int) int {
		n ^= n << 13
		n ^= n >> 7
		n ^= n << 17
		return int(n >> 1 % uint64(below))
	}
}

// row tells so many bytes, none like its neighbours.
func row(size int) []byte {
	b := make([]byte, size)
	for k := range b {
		b[k] = byte(37*k + 11)
	}
	return b
}

// sources tells so many Sources, with other bytes in each place.
func sources(count int) []uint32 {
	var l []uint32
	for k := range uint32(count) {
		l = append(l, 0x01020304+k*0x11111111)
	}
	return l
}

// number tells a number's bytes as the chapter's words do, by division.
func number(n uint64, size int) []byte {
	b := make([]byte, size)
	for k := size - 1; k >= 0; k-- {
		b[k] = byte(n % 256)
		n /= 256
	}
	return b
}

// value tells the number of bytes, the highest first.
func value(b []byte) uint64 {
	n := uint64(0)
	for _, x := range b {
		n = 256*n + uint64(x)
	}
	return n
}

// bytesSlowly tells a packet's bytes, part by part as the chapter's words tell them.
func bytesSlowly(p head.Packet) []byte {
	first := 128 + len(p.Sources)
	if p.Has {
		first += 16
	}
	second := int(p.Head.Type)
	if p.Head.Marker {
		second += 128
	}
	parts := [][]byte{{byte(first), byte(second)}, number(uint64(p.Head.Seq), 2), number(uint64(p.Head.Stamp), 4), number(uint64(p.Head.Source), 4)}
	for _, s := range p.Sources {
		parts = append(parts, number(uint64(s), 4))
	}
	if p.Has {
		parts = append(parts, number(uint64(p.Profile), 2), number(uint64(len(p.Extra)/4), 2), p.Extra)
	}
	parts = append(parts, p.Payload)
	return bytes.Join(parts, nil)
}

// rightSlowly tells whether a packet may be, by the chapter's words.
func rightSlowly(p head.Packet) bool {
	if p.Head.Type >= 128 || len(p.Sources) > 15 || len(p.Extra)%4 != 0 {
		return false
	}
	if !p.Has && (p.Profile != 0 || len(p.Extra) != 0) {
		return false
	}
	return len(bytesSlowly(p)) <= most
}

// readSlowly tells what P4.2 says, error by error in its order, by places in b.
func readSlowly(b []byte) (head.Packet, api.Errno) {
	switch {
	case len(b) > 200:
		return head.Packet{}, api.ErrLong
	case len(b) < 12:
		return head.Packet{}, api.ErrShort
	case b[0] < 128 || b[0] > 191:
		return head.Packet{}, api.ErrForm
	}
	end := 12 + 4*int(b[0]%16)
	extra := end
	has := b[0]/16%2 == 1
	if has {
		extra = end + 4
		if extra > len(b) {
			return head.Packet{}, api.ErrShort
		}
		end = extra + 4*int(value(b[end+2:end+4]))
	}
	if end > len(b) {
		return head.Packet{}, api.ErrShort
	}
	last := len(b)
	if b[0]/32%2 == 1 {
		pad := int(b[len(b)-1])
		if end == len(b) || pad == 0 || pad > len(b)-end {
			return head.Packet{}, api.ErrForm
		}
		last -= pad
	}
	p := head.Packet{Head: head.Head{Marker: b[1] >= 128, Type: b[1] % 128, Seq: uint16(value(b[2:4])), Stamp: uint32(value(b[4:8])), Source: uint32(value(b[8:12]))}}
	for k := range int(b[0] % 16) {
		p.Sources = append(p.Sources, uint32(value(b[12+4*k:16+4*k])))
	}
	if has {
		p.Has = true
		p.Profile = uint16(value(b[extra-4 : extra-2]))
		p.Extra = b[extra:end]
	}
	p.Payload = b[end:last]
	return p, api.OK
}

// same tells whether packets are one and the same; an empty list and none are (R6).
func same(p, q head.Packet) bool {
	return p.Head == q.Head && slices.Equal(p.Sources, q.Sources) && p.Has == q.Has && p.Profile == q.Profile &&
		bytes.Equal(p.Extra, q.Extra) && bytes.Equal(p.Payload, q.Payload)
}

// none tells whether a packet is the zero one.
func none(p head.Packet) bool { return same(p, head.Packet{}) }

// heads are such as have numbers at the ends, and such as have other bytes in each place.
func heads() []head.Head {
	return []head.Head{
		{},
		{Marker: true},
		{Type: 1},
		{Type: 127},
		{Marker: true, Type: 127, Seq: math.MaxUint16, Stamp: math.MaxUint32, Source: math.MaxUint32},
		{Type: 96, Seq: 258, Stamp: 1, Source: 2},
		{Type: 96, Seq: 0x8001, Stamp: 0x81020304, Source: 0x91a2b3c4},
		{Seq: 256}, {Stamp: 1 << 24}, {Source: 1 << 24},
		{Seq: 1}, {Stamp: 1}, {Source: 1},
	}
}

// packets are right ones, of all counts of Sources, with an extension and without, of ordinary sizes and of the greatest.
func packets() []head.Packet {
	var l []head.Packet
	for _, h := range heads() {
		for count := range 16 {
			p := head.Packet{Head: h, Sources: sources(count)}
			l = append(l, filled(p)...)
			p.Has = true
			for _, profile := range []uint16{0, 1, 0xbede, 0xff00, 65535} {
				p.Profile = profile
				l = append(l, filled(p)...)
			}
		}
	}
	return l
}

// filled tells a packet with several Extras, if it has an extension, and with several payloads, up to what there is room for.
func filled(p head.Packet) []head.Packet {
	var l []head.Packet
	room := most - len(bytesSlowly(p))
	extras := []int{0}
	if p.Has {
		extras = []int{0, 4, 8, 40, room / 4 * 4}
	}
	for _, extra := range extras {
		for _, payload := range []int{0, 1, 2, 5, room - extra - 1, room - extra} {
			if payload < 0 || extra+payload > room {
				continue
			}
			p.Extra, p.Payload = row(extra), bytes.Repeat([]byte{byte(payload + 3)}, payload)
			l = append(l, p)
		}
	}
	return l
}

// wrongs are packets that may not be, for one reason each.
func wrongs() []head.Packet {
	return []head.Packet{
		{Head: head.Head{Type: 128}},
		{Head: head.Head{Type: 129, Seq: 5}},
		{Head: head.Head{Type: 255, Marker: true}},
		{Sources: sources(16)},
		{Sources: sources(17)},
		{Sources: sources(32)},
		{Sources: make([]uint32, 47)},
		{Sources: make([]uint32, 48)},
		{Sources: make([]uint32, 1<<20)},
		{Profile: 1},
		{Profile: 0xbede, Payload: row(3)},
		{Profile: 65535},
		{Extra: row(4)},
		{Extra: row(1)},
		{Profile: 1, Extra: row(4)},
		{Has: true, Extra: row(1)},
		{Has: true, Extra: row(2)},
		{Has: true, Extra: row(3)},
		{Has: true, Extra: row(5), Payload: row(3)},
		{Has: true, Extra: row(183)},
		{Payload: row(189)},
		{Payload: row(1000)},
		{Payload: make([]byte, 1<<24)},
		{Sources: sources(1), Payload: row(185)},
		{Sources: sources(15), Payload: row(129)},
		{Has: true, Payload: row(185)},
		{Has: true, Extra: row(4), Payload: row(181)},
		{Has: true, Extra: row(184), Payload: row(1)},
		{Has: true, Extra: row(188)},
		{Has: true, Extra: make([]byte, 1<<18)},
		{Has: true, Extra: make([]byte, 1<<24)},
		{Sources: sources(15), Has: true, Payload: row(125)},
		{Sources: sources(15), Has: true, Extra: row(128)},
	}
}

// P4.1: the chapter's example, and each part alone, in its place.
func TestBytesTable(t *testing.T) {
	for _, c := range []struct {
		p    head.Packet
		want []byte
	}{
		{head.Packet{Head: head.Head{Type: 96, Seq: 258, Stamp: 1, Source: 2}, Payload: []byte{7}}, []byte{128, 96, 1, 2, 0, 0, 0, 1, 0, 0, 0, 2, 7}},
		{head.Packet{}, []byte{128, 0, 0, 0, 0, 0, 0, 0, 0, 0, 0, 0}},
		{head.Packet{Head: head.Head{Marker: true}}, []byte{128, 128, 0, 0, 0, 0, 0, 0, 0, 0, 0, 0}},
		{head.Packet{Head: head.Head{Marker: true, Type: 127}}, []byte{128, 255, 0, 0, 0, 0, 0, 0, 0, 0, 0, 0}},
		{head.Packet{Head: head.Head{Seq: 0xfffe, Stamp: 0xf1f2f3f4, Source: 0xe1e2e3e4}}, []byte{128, 0, 255, 254, 0xf1, 0xf2, 0xf3, 0xf4, 0xe1, 0xe2, 0xe3, 0xe4}},
		{head.Packet{Sources: []uint32{3, 0x01020304}}, []byte{130, 0, 0, 0, 0, 0, 0, 0, 0, 0, 0, 0, 0, 0, 0, 3, 1, 2, 3, 4}},
		{head.Packet{Has: true}, []byte{144, 0, 0, 0, 0, 0, 0, 0, 0, 0, 0, 0, 0, 0, 0, 0}},
		{head.Packet{Has: true, Profile: 0xbede, Extra: []byte{5, 6, 7, 8}}, []byte{144, 0, 0, 0, 0, 0, 0, 0, 0, 0, 0, 0, 0xbe, 0xde, 0, 1, 5, 6, 7, 8}},
		{
			head.Packet{Sources: []uint32{9}, Has: true, Profile: 1, Extra: []byte{1, 2, 3, 4, 5, 6, 7, 8}, Payload: []byte{10, 11}},
			[]byte{145, 0, 0, 0, 0, 0, 0, 0, 0, 0, 0, 0, 0, 0, 0, 9, 0, 1, 0, 2, 1, 2, 3, 4, 5, 6, 7, 8, 10, 11},
		},
	} {
		b, e := head.Bytes(c.p)
		if e != api.OK || !bytes.Equal(b, c.want) || !head.Right(c.p) {
			t.Errorf("%v: %v, %d", c.p, b, e)
		}
		if p, e := head.Read(c.want); e != api.OK || !same(p, c.p) {
			t.Errorf("%v: %v, %d", c.want, p, e)
		}
	}
}

// P4.1: packets that may be, with their bytes, up to the greatest.
func TestBytesOfPackets(t *testing.T) {
	full := 0
	for _, p := range packets() {
		want := bytesSlowly(p)
		b, e := head.Bytes(p)
		if e != api.OK || !bytes.Equal(b, want) || !head.Right(p) {
			t.Fatalf("%v: %v, %d", p, b, e)
		}
		if len(b) == most {
			full++
		}
	}
	if full == 0 {
		t.Error("no packet has as many bytes as may be")
	}
}

// P4.1: each Type; the highest that may be is 127.
func TestTypes(t *testing.T) {
	for n := range 256 {
		for _, marker := range []bool{false, true} {
			p := head.Packet{Head: head.Head{Marker: marker, Type: byte(n)}}
			b, e := head.Bytes(p)
			if head.Right(p) != (n < 128) || (e == api.OK) != (n < 128) {
				t.Errorf("Type %d: %v, %d", n, head.Right(p), e)
			}
			if n < 128 && !bytes.Equal(b, bytesSlowly(p)) {
				t.Errorf("Type %d: %v", n, b)
			}
		}
	}
}

// P4.1: each count of Sources by each length of Extra and many of the payload, with an extension and without.
func TestRightBySizes(t *testing.T) {
	for count := range 20 {
		for extra := range 206 {
			for _, payload := range []int{0, 1, 100, 187 - 4*count - extra, 188 - 4*count - extra, 189 - 4*count - extra, 184 - 4*count - extra, 185 - 4*count - extra} {
				for _, has := range []bool{false, true} {
					p := head.Packet{Sources: sources(count), Has: has, Extra: row(extra), Payload: row(max(0, payload))}
					want := rightSlowly(p)
					b, e := head.Bytes(p)
					if head.Right(p) != want || (e == api.OK) != want || (e == api.ErrArg) == want || len(b) > most {
						t.Fatalf("%d Sources, %v, %d of Extra, payload of %d: %v, %d", count, has, extra, payload, head.Right(p), e)
					}
				}
			}
		}
	}
}

// P4.1: packets that may not be, and R2: no bytes are told of them.
func TestWrongPackets(t *testing.T) {
	for k, p := range wrongs() {
		if head.Right(p) {
			t.Errorf("case %d may be", k)
		}
		if b, e := head.Bytes(p); e != api.ErrArg || len(b) != 0 {
			t.Errorf("case %d: %v, %d", k, b, e)
		}
	}
}

// P4.1: a packet's fields by themselves: Profile and Extra need an extension, an empty Extra doesn't.
func TestExtension(t *testing.T) {
	for _, c := range []struct {
		p    head.Packet
		want bool
	}{
		{head.Packet{Has: false, Profile: 0, Extra: nil}, true},
		{head.Packet{Has: false, Profile: 0, Extra: []byte{}}, true},
		{head.Packet{Has: true, Profile: 0, Extra: []byte{}}, true},
		{head.Packet{Has: true, Profile: 256}, true},
		{head.Packet{Has: false, Profile: 256}, false},
		{head.Packet{Has: false, Extra: make([]byte, 4)}, false},
		{head.Packet{Has: true, Extra: make([]byte, 4)}, true},
	} {
		if head.Right(c.p) != c.want {
			t.Errorf("%v: %v", c.p, !c.want)
		}
	}
}

// P4.2: each error of Read, where only it applies.
func TestReadErrors(t *testing.T) {
	plain := func(first byte, size int) []byte {
		b := make([]byte, size)
		b[0] = first
		return b
	}
	for _, c := range []struct {
		what string
		b    []byte
		want api.Errno
	}{
		{"one too many", plain(128, 201), api.ErrLong},
		{"many too many", plain(128, 1<<20), api.ErrLong},
		{"as many as may be", plain(128, 200), api.OK},
		{"none", nil, api.ErrShort},
		{"an empty list", []byte{}, api.ErrShort},
		{"one byte", plain(128, 1), api.ErrShort},
		{"one too few", plain(128, 11), api.ErrShort},
		{"just as many", plain(128, 12), api.OK},
		{"the form below", plain(127, 12), api.ErrForm},
		{"the form of 0", plain(0, 12), api.ErrForm},
		{"the form of 64", plain(64, 12), api.ErrForm},
		{"the form above", plain(192, 12), api.ErrForm},
		{"the form far above", plain(255, 12), api.ErrForm},
		{"the last form", append(plain(191, 199), 1), api.OK},
		{"a Source missing", plain(129, 12), api.ErrShort},
		{"a Source cut", plain(129, 15), api.ErrShort},
		{"a Source", plain(129, 16), api.OK},
		{"15 Sources cut", plain(143, 71), api.ErrShort},
		{"15 Sources", plain(143, 72), api.OK},
		{"an extension missing", plain(144, 12), api.ErrShort},
		{"an extension's head cut", plain(144, 15), api.ErrShort},
		{"an extension without bytes", plain(144, 16), api.OK},
		{"an extension missing behind 15 Sources", plain(159, 72), api.ErrShort},
		{"an extension's bytes missing", append(plain(144, 12), 0, 0, 0, 1), api.ErrShort},
		{"an extension's bytes cut", append(plain(144, 12), 0, 0, 0, 1, 1, 2, 3), api.ErrShort},
		{"an extension's bytes", append(plain(144, 12), 0, 0, 0, 1, 1, 2, 3, 4), api.OK},
		{"an extension of as many bytes as can be told", append(append(plain(144, 12), 0, 0, 255, 255), row(184)...), api.ErrShort},
		{"an extension of 1024 bytes", append(append(plain(144, 12), 0, 0, 1, 0), row(184)...), api.ErrShort},
		{"an extension of one word too many", append(append(plain(144, 12), 0, 0, 0, 47), row(184)...), api.ErrShort},
		{"an extension as long as may be", append(append(plain(144, 12), 0, 0, 0, 46), row(184)...), api.OK},
		{"padded by no byte", plain(160, 12), api.ErrForm},
		{"padded by 0", plain(160, 13), api.ErrForm},
		{"padded by 1", append(plain(160, 12), 1), api.OK},
		{"padded by more than there are", append(plain(160, 12), 2), api.ErrForm},
		{"padded by 255", append(plain(160, 12), 255), api.ErrForm},
		{"padded by 128 of 188", append(plain(160, 199), 128), api.OK},
		{"padded by 188 of 188", append(plain(160, 199), 188), api.OK},
		{"padded by 189 of 188", append(plain(160, 199), 189), api.ErrForm},
		{"padded by 2 of 2", append(plain(160, 13), 2), api.OK},
		{"padded by 3 of 2", append(plain(160, 13), 3), api.ErrForm},
		{"padded by no byte behind a Source", append(plain(161, 15), 1), api.ErrForm},
		{"padded by no byte behind an extension", append(plain(176, 12), 0, 0, 0, 1, 1, 1, 1, 1), api.ErrForm},
		{"padded by no byte behind an extension's head", append(plain(176, 12), 0, 0, 0, 0), api.ErrForm},
	} {
		p, e := head.Read(c.b)
		if e != c.want || e != api.OK && !none(p) {
			t.Errorf("%s: %v, %d, not %d", c.what, p, e, c.want)
		}
	}
}

// P4.2 and R2: where several errors apply, the one that is named first is told.
func TestReadFirstError(t *testing.T) {
	bad := func(first byte, size int) []byte { return append([]byte{first}, make([]byte, size-1)...) }
	for _, c := range []struct {
		what string
		b    []byte
		want api.Errno
	}{
		{"too long, of no form", bad(0, 201), api.ErrLong},
		{"too long, padded by 0", bad(160, 201), api.ErrLong},
		{"too long, an extension too short", append(append(bad(144, 12), 0, 0, 255, 255), make([]byte, 185)...), api.ErrLong},
		{"short, of no form", bad(0, 11), api.ErrShort},
		{"short, of no form, one byte", bad(255, 1), api.ErrShort},
		{"short, padded by 0", bad(160, 11), api.ErrShort},
		{"of no form, Sources missing", bad(15, 12), api.ErrForm},
		{"of no form, an extension missing", bad(208, 12), api.ErrForm},
		{"Sources missing, padded by 0", bad(161, 12), api.ErrShort},
		{"Sources cut, padded by 0", bad(162, 19), api.ErrShort},
		{"Sources cut, padded by 1", append(bad(162, 18), 1), api.ErrShort},
		{"Sources cut, padded by 255", append(bad(162, 18), 255), api.ErrShort},
		{"an extension missing, padded by 0", bad(176, 12), api.ErrShort},
		{"an extension cut, padded by 0", append(bad(176, 12), 0, 0, 0, 1, 1, 2, 0), api.ErrShort},
		{"an extension cut, padded by 3", append(bad(176, 12), 0, 0, 0, 1, 1, 2, 3), api.ErrShort},
	} {
		p, e := head.Read(c.b)
		if e != c.want || !none(p) {
			t.Errorf("%s: %v, %d, not %d", c.what, p, e, c.want)
		}
	}
}

// P4.2: all first bytes, by all lengths, and by last bytes at the edges.
func TestReadByFirstByte(t *testing.T) {
	for first := range 256 {
		for size := range 203 {
			b := row(size)
			if size > 0 {
				b[0] = byte(first)
			}
			// The extension's length, wherever it stands, is a small one.
			if at := 12 + 4*(first%16) + 2; at+1 < size {
				b[at], b[at+1] = 0, 3
			}
			checkRead(t, b)
			behind := size - 12 - 4*(first%16)
			for _, last := range []int{0, 1, behind - 16, behind - 1, behind, behind + 1, 255} {
				if size > 0 && last >= 0 && last < 256 {
					b[size-1] = byte(last)
					checkRead(t, b)
				}
			}
		}
	}
}

// checkRead holds what is read against what is read slowly; what is read comes back as bytes, unless it was padded.
func checkRead(t *testing.T, b []byte) {
	t.Helper()
	want, e := readSlowly(b)
	p, f := head.Read(b)
	if f != e || !same(p, want) {
		t.Fatalf("%v: %v, %d, not %v, %d", b, p, f, want, e)
	}
	if e != api.OK {
		return
	}
	back, f := head.Bytes(p)
	clear := bytes.Clone(b)
	clear[0] &^= 32
	if f != api.OK || !bytes.HasPrefix(clear, back) || b[0]&32 == 0 && len(back) != len(b) {
		t.Fatalf("%v comes back as %v, %d", b, back, f)
	}
}

// P4.2 and P4.4, of bytes without a pattern, most of which have a form that may be.
func TestReadNoise(t *testing.T) {
	next := noise()
	for range 60000 {
		b := make([]byte, next(most+4))
		for k := range b {
			b[k] = byte(next(256))
		}
		if len(b) > 0 && next(8) > 0 {
			b[0] = b[0]%64 + 128
		}
		if at := 14; len(b) > at+1 && next(2) > 0 {
			b[0] &= 0xf0
			b[at], b[at+1] = 0, byte(next(50))
		}
		if len(b) > 0 && next(2) > 0 {
			b[len(b)-1] = byte(next(20))
		}
		checkRead(t, b)
	}
}

// padded tells bytes that are padded by so many; those ahead of the last one are fill.
func padded(b []byte, by int, fill byte) []byte {
	b = append(bytes.Clone(b), bytes.Repeat([]byte{fill}, by-1)...)
	b = append(b, byte(by))
	b[0] += 32
	return b
}

// P4.4: packets come back from their bytes, and from these padded by each number that there is room for.
func TestComesBack(t *testing.T) {
	for k, p := range packets() {
		b := bytesSlowly(p)
		if q, e := head.Read(b); e != api.OK || !same(q, p) {
			t.Fatalf("%v: %v, %d", p, q, e)
		}
		for by := 1; by <= most-len(b); by++ {
			// All paddings of each packet would be many times as many, and tell no more.
			if by > 3 && by < most-len(b)-1 && (by+k)%23 > 0 {
				continue
			}
			for _, fill := range []byte{0, 1, 255} {
				if q, e := head.Read(padded(b, by, fill)); e != api.OK || !same(q, p) {
					t.Fatalf("%v, padded by %d: %v, %d", p, by, q, e)
				}
			}
		}
		if by := most - len(b) + 1; by < 256 {
			if q, e := head.Read(padded(b, by, 0)); e != api.ErrLong || !none(q) {
				t.Fatalf("%v, padded by %d: %v, %d", p, by, q, e)
			}
		}
	}
}

// P4.2 and P4.4: bytes that are cut are read as a shorter payload, or are short.
func TestCut(t *testing.T) {
	for _, p := range packets() {
		b := bytesSlowly(p)
		needs := len(b) - len(p.Payload)
		for _, cut := range []int{0, 1, 11, 12, 13, 15, 16, 17, needs - 4, needs - 1, needs, needs + 1, len(b) - 1} {
			if cut < 0 || cut >= len(b) {
				continue
			}
			want, shorter := api.ErrShort, head.Packet{}
			if cut >= needs {
				want, shorter = api.OK, p
				shorter.Payload = p.Payload[:cut-needs]
			}
			if q, e := head.Read(b[:cut]); e != want || !same(q, shorter) {
				t.Fatalf("%v, cut at %d: %v, %d", p, cut, q, e)
			}
		}
	}
}

// P4.4: unlike packets have unlike bytes; like ones, with none for an empty list, like bytes (R6).
func TestUnlike(t *testing.T) {
	from := map[string]head.Packet{}
	for _, p := range packets() {
		b, _ := head.Bytes(p)
		if q, ok := from[string(b)]; ok && !same(p, q) {
			t.Fatalf("%v and %v have the same bytes", p, q)
		}
		from[string(b)] = p
	}
	nils, _ := head.Bytes(head.Packet{})
	empty, _ := head.Bytes(head.Packet{Sources: []uint32{}, Extra: []byte{}, Payload: []byte{}})
	if !bytes.Equal(nils, empty) || len(nils) == 0 {
		t.Errorf("%v, %v", nils, empty)
	}
	// Where an extension stands, its head tells it from a payload of the same bytes.
	one, _ := head.Bytes(head.Packet{Has: true, Profile: 7, Extra: []byte{1, 2, 3, 4}})
	two, _ := head.Bytes(head.Packet{Has: true, Profile: 7, Payload: []byte{1, 2, 3, 4}})
	three, _ := head.Bytes(head.Packet{Payload: []byte{0, 7, 0, 1, 1, 2, 3, 4}})
	four, _ := head.Bytes(head.Packet{Sources: []uint32{0x00070001, 0x01020304}})
	l := []string{string(one), string(two), string(three), string(four)}
	slices.Sort(l)
	if len(slices.Compact(l)) != 4 {
		t.Errorf("some of these are the same: %v, %v, %v, %v", one, two, three, four)
	}
}

// P4.3: each second byte, with one byte, with two, and with many; what the first one is doesn't matter.
func TestControl(t *testing.T) {
	if head.Control(nil) || head.Control([]byte{}) {
		t.Error("no bytes")
	}
	for n := range 256 {
		if head.Control([]byte{byte(n)}) {
			t.Errorf("one byte %d", n)
		}
		// These 32 numbers are all that have 6 as their highest three bits.
		want := n/32 == 6
		for _, first := range []byte{0, 128, 160, 200, 255} {
			for _, size := range []int{2, 3, 12, most, most + 1, 1000} {
				b := bytes.Repeat([]byte{first}, size)
				b[1] = byte(n)
				if head.Control(b) != want {
					t.Errorf("%d bytes of %d, the second one %d: %v", size, first, n, !want)
				}
			}
		}
	}
}

// R3: what is told is no part of what was handed in, and stays what it is.
func TestSharesNothing(t *testing.T) {
	list, extra, payload := []uint32{1, 2}, []byte{1, 2, 3, 4}, []byte{5, 6, 7}
	p := head.Packet{Sources: list, Has: true, Extra: extra, Payload: payload}
	b, _ := head.Bytes(p)
	kept := bytes.Clone(b)
	if !slices.Equal(list, []uint32{1, 2}) || !bytes.Equal(extra, []byte{1, 2, 3, 4}) || !bytes.Equal(payload, []byte{5, 6, 7}) {
		t.Error("Bytes changed its packet")
	}
	list[0], extra[0], payload[0] = 99, 99, 99
	if !bytes.Equal(b, kept) {
		t.Errorf("after a change of the packet: %v", b)
	}
	for k := range b {
		b[k] = 77
	}
	if list[1] != 2 || extra[1] != 2 || payload[1] != 6 {
		t.Error("a change of the bytes is one of the packet")
	}
	for _, in := range [][]byte{kept, padded(kept, 5, 9)} {
		checkReadApart(t, in)
	}
}

// checkReadApart holds what is read of bytes, which have all parts, to sharing nothing with these, nor part with part.
func checkReadApart(t *testing.T, in []byte) {
	t.Helper()
	was := bytes.Clone(in)
	p, _ := head.Read(in)
	want, _ := readSlowly(was)
	if !bytes.Equal(in, was) {
		t.Error("Read changed its bytes")
	}
	for k := range in {
		in[k] ^= 255
	}
	if !same(p, want) {
		t.Errorf("after a change of the bytes: %v", p)
	}
	again := bytes.Clone(in)
	room := p.Extra[:cap(p.Extra)]
	for k := range room {
		room[k] = 88
	}
	if !bytes.Equal(p.Payload, want.Payload) || !slices.Equal(p.Sources, want.Sources) {
		t.Errorf("after a change of Extra: %v", p)
	}
	_ = append(p.Extra, 50, 51, 52)
	_ = append(p.Payload, 60, 61, 62)
	if !bytes.Equal(p.Payload, want.Payload) || !bytes.Equal(in, again) {
		t.Errorf("after more behind Extra: %v", p)
	}
	p.Payload[0] = 70
	if p.Extra[0] != 88 || !bytes.Equal(in, again) {
		t.Errorf("after a change of the payload: %v", p)
	}
}

// The chapter's Words: a packet embeds its head, whose fields are its own.
func TestHeadIsEmbedded(t *testing.T) {
	p, _ := head.Read([]byte{128, 224, 1, 2, 0, 0, 0, 1, 0, 0, 0, 2, 7})
	want := head.Head{Marker: true, Type: 96, Seq: 258, Stamp: 1, Source: 2}
	if p.Head != want || p.Marker != true || p.Type != 96 || p.Seq != 258 || p.Stamp != 1 || p.Source != 2 {
		t.Errorf("%v", p)
	}
	p.Marker, p.Seq = false, 3
	if b, _ := head.Bytes(p); !bytes.Equal(b, []byte{128, 96, 0, 3, 0, 0, 0, 1, 0, 0, 0, 2, 7}) {
		t.Errorf("%v", b)
	}
}

// R4 and R5: nothing is kept from one call to the next.
func TestApart(t *testing.T) {
	b := bytesSlowly(head.Packet{Sources: sources(3), Has: true, Extra: row(8), Payload: row(5)})
	first, _ := head.Read(b)
	head.Read([]byte{0})
	head.Read(padded(b, 200-len(b), 1))
	head.Bytes(head.Packet{Head: head.Head{Type: 200}})
	second, e := head.Read(b)
	if e != api.OK || !same(first, second) {
		t.Errorf("%v, then %v, %d", first, second, e)
	}
	third, _ := head.Read([]byte{128, 0, 0, 0, 0, 0, 0, 0, 0, 0, 0, 0})
	if !none(third) || !same(first, second) {
		t.Errorf("%v, %v", third, second)
	}
}
