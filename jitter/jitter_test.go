package jitter_test

import (
	"math"
	"slices"
	"testing"

	"manifold/api"
	"manifold/jitter"
)

// The document's own numbers: the greatest number and time, and how far below the next one a number that came out is still known.
const (
	top = 1 << 60
	far = 64
)

// noise tells numbers that are the same at each run, but have no pattern of their own.
func noise() func(below int) int {
	n := uint64(88172645463325252)
	return func(below int) int {
		n ^= n << 13
		n ^= n >> 7
		n ^= n << 17
		return int(n >> 1 % uint64(below))
	}
}

// buffer is a Buffer under test; each of its calls fails the test where the answer is another one.
type buffer struct {
	*jitter.Buffer[string]
	t *testing.T
}

func newBuffer(t *testing.T, room int, wait int64) buffer {
	t.Helper()
	b, e := jitter.New[string](room, wait)
	if e != api.OK || b == nil {
		t.Fatalf("New(%d, %d) = %v, %d", room, wait, b, e)
	}
	return buffer{b, t}
}

func (b buffer) push(n, now int64, x string, want api.Errno) {
	b.t.Helper()
	if e := b.Push(n, now, x); e != want {
		b.t.Fatalf("Push(%d, %d) = %d, want %d", n, now, e, want)
	}
}

// pop awaits that a thing comes out.
func (b buffer) pop(now, n int64, x string) {
	b.t.Helper()
	if !b.Ready(now) {
		b.t.Fatalf("Ready(%d) = false", now)
	}
	if gotN, got, is := b.Pop(now); gotN != n || got != x || !is {
		b.t.Fatalf("Pop(%d) = %d, %q, %v, want %d, %q", now, gotN, got, is, n, x)
	}
}

// stays awaits that nothing comes out, and that nothing is changed.
func (b buffer) stays(now int64) {
	b.t.Helper()
	held := b.Len()
	next, some := b.Next()
	if b.Ready(now) {
		b.t.Fatalf("Ready(%d) = true", now)
	}
	if n, x, is := b.Pop(now); n != 0 || x != "" || is {
		b.t.Fatalf("Pop(%d) = %d, %q, %v", now, n, x, is)
	}
	b.has(held)
	b.next(next, some)
}

func (b buffer) has(want int) {
	b.t.Helper()
	if got := b.Len(); got != want {
		b.t.Fatalf("Len = %d, want %d", got, want)
	}
}

func (b buffer) next(want int64, some bool) {
	b.t.Helper()
	if got, is := b.Next(); got != want || is != some {
		b.t.Fatalf("Next = %d, %v, want %d, %v", got, is, want, some)
	}
}

func (b buffer) drain(want ...string) {
	b.t.Helper()
	if got := b.Drain(); !slices.Equal(got, want) {
		b.t.Fatalf("Drain = %q, want %q", got, want)
	}
	b.has(0)
}

// P12.1: each room and wait around the limits.
func TestNew(t *testing.T) {
	for _, room := range []int{math.MinInt, -8, -1, 0, 1, 2, 3, 4, 5, 6, 7, 8, 9, 10, 100, math.MaxInt} {
		for _, wait := range []int64{math.MinInt64, -1000, -1, 0, 1, 5, 999, 1000, 1001, 1002, math.MaxInt64} {
			b, e := jitter.New[int](room, wait)
			if 1 <= room && room <= 8 && 0 <= wait && wait <= 1000 {
				if e != api.OK || b == nil {
					t.Errorf("New(%d, %d) = %v, %d", room, wait, b, e)
				}
			} else if e != api.ErrArg || b != nil {
				t.Errorf("New(%d, %d) = %v, %d", room, wait, b, e)
			}
		}
	}
}

// P12.1, P12.3: an empty buffer has nothing, and no next number, whenever it is asked.
func TestEmpty(t *testing.T) {
	for room := 1; room <= api.MostHold; room++ {
		b := newBuffer(t, room, 0)
		b.has(0)
		b.next(0, false)
		for _, now := range []int64{0, 1, 1000, top} {
			b.stays(now)
		}
		b.drain()
		b.next(0, false)
	}
}

// The chapter's example.
func TestExample(t *testing.T) {
	b := newBuffer(t, 3, 5)
	b.push(7, 0, "seven", api.OK)
	b.pop(0, 7, "seven")
	b.push(9, 1, "nine", api.OK)
	b.stays(2)
	b.push(8, 3, "eight", api.OK)
	b.pop(3, 8, "eight")
	b.pop(3, 9, "nine")
}

// P12.1: Len and Next, as things come in, are refused, and go out.
func TestLenAndNext(t *testing.T) {
	b := newBuffer(t, 3, 5)
	b.push(40, 0, "a", api.OK)
	b.has(1)
	b.next(0, false)
	b.push(42, 0, "b", api.OK)
	b.push(42, 0, "c", api.ErrSeen)
	b.has(2)
	b.next(0, false)
	b.pop(0, 40, "a")
	b.has(1)
	b.next(41, true)
	b.push(40, 0, "d", api.ErrSeen)
	b.push(39, 0, "e", api.ErrLate)
	b.has(1)
	b.next(41, true)
	b.pop(5, 42, "b")
	b.has(0)
	b.next(43, true)
	b.drain()
	b.next(43, true)
}

// P12.1: number 0 that came out is another thing than nothing that did.
func TestNextOfZero(t *testing.T) {
	b := newBuffer(t, 1, 0)
	b.push(0, 0, "a", api.OK)
	b.next(0, false)
	b.pop(0, 0, "a")
	b.next(1, true)
	b.push(0, 0, "b", api.ErrSeen)
	b.push(1, 0, "c", api.OK)
}

// P12.2: as long as nothing came out, no number is late or was seen but what is held.
func TestPushFirst(t *testing.T) {
	b := newBuffer(t, 8, 5)
	for _, n := range []int64{500, top, 0, 499, 501, 1, 2} {
		b.push(n, 3, "x", api.OK)
		b.push(n, 3, "y", api.ErrSeen)
	}
	b.next(0, false)
	b.has(7)
}

// P12.2: what came out is seen down to 64 below the next number, and late further down; what never came out is late.
func TestPushBelow(t *testing.T) {
	for _, low := range []int64{0, 1, 5000, 1 << 32, top - 200} {
		b := newBuffer(t, 8, 5)
		// All numbers but each third one come out.
		gone := func(n int64) bool { return n%3 != 2 }
		last := low
		for n := low; n <= low+150; n++ {
			if !gone(n) && n != low {
				continue
			}
			b.push(n, 0, "x", api.OK)
			b.pop(5, n, "x")
			last = n
		}
		next := last + 1
		b.next(next, true)
		for n := max(0, low-2); n < next; n++ {
			if (gone(n) || n == low) && n >= next-far {
				b.push(n, 9, "y", api.ErrSeen)
			} else {
				b.push(n, 9, "y", api.ErrLate)
			}
		}
		b.push(0, 9, "y", api.ErrLate)
		b.has(0)
		b.push(next, 9, "z", api.OK)
	}
}

// P12.2: the edge of what is seen, number by number.
func TestPushEdge(t *testing.T) {
	for gap := int64(1); gap <= 200; gap++ {
		b := newBuffer(t, 1, 0)
		b.push(1000, 0, "a", api.OK)
		b.pop(0, 1000, "a")
		b.push(1000+gap, 0, "b", api.OK)
		b.pop(0, 1000+gap, "b")
		// The next number is 1001+gap, and 1000 is 1+gap below it.
		want := api.ErrSeen
		if 1+gap > far {
			want = api.ErrLate
		}
		b.push(1000, 0, "c", want)
		b.push(1000+gap, 0, "c", api.ErrSeen)
		b.push(999, 0, "c", api.ErrLate)
		if gap > 1 {
			b.push(999+gap, 0, "c", api.ErrLate)
		}
	}
}

// P12.2: where several errors apply, ErrSeen is told ahead of ErrLate, and ErrLate ahead of ErrFull; nothing is changed by them.
func TestPushOrder(t *testing.T) {
	b := newBuffer(t, 2, 5)
	b.push(10, 0, "a", api.OK)
	b.pop(0, 10, "a")
	b.push(13, 0, "b", api.OK)
	b.push(15, 0, "c", api.OK)
	b.push(10, 0, "d", api.ErrSeen)
	b.push(13, 0, "d", api.ErrSeen)
	b.push(15, 0, "d", api.ErrSeen)
	b.push(9, 0, "d", api.ErrLate)
	b.push(11, 0, "d", api.ErrFull)
	b.push(12, 0, "d", api.ErrFull)
	b.push(14, 0, "d", api.ErrFull)
	b.push(16, 0, "d", api.ErrFull)
	b.push(top, top, "d", api.ErrFull)
	b.has(2)
	b.next(11, true)
	b.pop(0, 13, "b")
	b.push(11, 0, "d", api.ErrLate)
	b.push(13, 0, "d", api.ErrSeen)
	b.push(16, 0, "e", api.OK)
	b.drain("c", "e")
}

// P12.2: each room holds just as many; there is room again for what came out.
func TestFull(t *testing.T) {
	for room := 1; room <= api.MostHold; room++ {
		b := newBuffer(t, room, 1000)
		for k := range room {
			b.has(k)
			b.push(int64(100-10*k), 0, string(rune('a'+k)), api.OK)
		}
		for range 3 {
			b.push(5, 0, "x", api.ErrFull)
			b.push(200, 0, "x", api.ErrFull)
		}
		b.has(room)
		b.pop(0, int64(100-10*(room-1)), string(rune('a'+room-1)))
		b.has(room - 1)
		b.push(200, 0, "y", api.OK)
		b.push(201, 0, "x", api.ErrFull)
		b.has(room)
	}
}

// P12.3: without a next number it is ready as soon as it holds something, even ahead of the time that it came at.
func TestReadyAtFirst(t *testing.T) {
	b := newBuffer(t, 8, 1000)
	b.push(77, 50, "a", api.OK)
	b.push(33, 60, "b", api.OK)
	b.pop(0, 33, "b")
	b.stays(0)
	b.pop(1050, 77, "a")
}

// P12.3: it is ready where the least number is the next one, whatever the time.
func TestReadyByNext(t *testing.T) {
	b := newBuffer(t, 8, 1000)
	b.push(5, 0, "a", api.OK)
	b.pop(0, 5, "a")
	b.push(8, 10, "d", api.OK)
	b.push(7, 10, "c", api.OK)
	b.stays(10)
	b.push(6, 10, "b", api.OK)
	b.pop(0, 6, "b")
	b.pop(0, 7, "c")
	b.pop(0, 8, "d")
	b.push(10, 10, "e", api.OK)
	b.stays(10)
}

// P12.3: it is ready where there is no more room.
func TestReadyByRoom(t *testing.T) {
	for room := 1; room <= api.MostHold; room++ {
		b := newBuffer(t, room, 1000)
		b.push(5, 0, "a", api.OK)
		b.pop(0, 5, "a")
		for k := range room {
			b.stays(0)
			b.push(int64(100-10*k), 0, "b", api.OK)
		}
		b.pop(0, int64(100-10*(room-1)), "b")
		if room > 1 {
			b.stays(0)
		}
	}
}

// P12.3: it is ready from the time on at which a thing has waited: since and wait together.
func TestReadyByWait(t *testing.T) {
	for _, wait := range []int64{0, 1, 2, 5, 999, 1000} {
		for _, since := range []int64{0, 1, 1000, 1 << 40, top - 1000} {
			b := newBuffer(t, 2, wait)
			b.push(5, 0, "a", api.OK)
			b.pop(0, 5, "a")
			b.push(7, since, "b", api.OK)
			for _, early := range []int64{0, since - 1000, since - 1, since + wait - 2, since + wait - 1} {
				if 0 <= early && early < since+wait {
					b.stays(early)
				}
			}
			if !b.Ready(top) || !b.Ready(since+wait+1) {
				t.Fatalf("wait %d, since %d: not ready later", wait, since)
			}
			b.pop(since+wait, 7, "b")
		}
	}
}

// P12.3: any thing that waited makes the least number come out, though that one came later; it isn't ready any more when what waited is out.
func TestReadyByAnother(t *testing.T) {
	b := newBuffer(t, 8, 10)
	b.push(5, 0, "a", api.OK)
	b.pop(0, 5, "a")
	b.push(9, 100, "last", api.OK)
	b.push(7, 105, "first", api.OK)
	b.push(20, 107, "other", api.OK)
	b.stays(109)
	b.pop(110, 7, "first")
	b.pop(110, 9, "last")
	b.stays(110)
	b.stays(116)
	b.pop(117, 20, "other")
}

// P12.3: times go to and fro: it is the time that is asked for that counts.
func TestTimesBack(t *testing.T) {
	b := newBuffer(t, 8, 10)
	b.push(5, top, "a", api.OK)
	b.pop(0, 5, "a")
	b.push(7, 100, "b", api.OK)
	b.push(8, 50, "c", api.OK)
	if !b.Ready(60) || b.Ready(59) || !b.Ready(110) || b.Ready(0) {
		t.Fatal("Ready")
	}
	b.pop(60, 7, "b")
	b.pop(60, 8, "c")
	b.push(top, top, "d", api.OK)
	b.stays(top)
	b.drain("d")
	b.next(top+1, true)
	b.push(top, top, "e", api.ErrSeen)
	b.push(top-1, top, "e", api.ErrLate)
}

// P12.3: all comes out by rising numbers, ready or not; it came out, and other things may come in.
func TestDrain(t *testing.T) {
	b := newBuffer(t, 4, 1000)
	b.push(30, 9, "c", api.OK)
	b.push(10, 9, "a", api.OK)
	b.push(20, 9, "b", api.OK)
	b.drain("a", "b", "c")
	b.next(31, true)
	for _, n := range []int64{10, 20, 30} {
		b.push(n, 9, "x", api.ErrSeen)
	}
	for _, n := range []int64{9, 11, 29} {
		b.push(n, 9, "x", api.ErrLate)
	}
	b.push(35, 9, "e", api.OK)
	b.push(33, 9, "d", api.OK)
	b.stays(9)
	b.drain("d", "e")
	b.next(36, true)
	b.drain()
	b.next(36, true)
	b.push(35, 9, "x", api.ErrSeen)
	b.push(10, 9, "x", api.ErrSeen)
	b.push(100, 9, "f", api.OK)
	b.drain("f")
	b.push(37, 9, "x", api.ErrLate)
	b.push(35, 9, "x", api.ErrLate)
	b.push(30, 9, "x", api.ErrLate)
}

// P12.3: the list of what was drained is its own: what is done to it changes nothing, and nothing that comes later changes it.
func TestDrainAlone(t *testing.T) {
	b := newBuffer(t, 4, 0)
	b.push(1, 0, "a", api.OK)
	b.push(2, 0, "b", api.OK)
	l := b.Drain()
	b.push(3, 0, "c", api.OK)
	b.push(4, 0, "d", api.OK)
	if !slices.Equal(l, []string{"a", "b"}) {
		t.Fatalf("the list is %q", l)
	}
	l = append(l[:0], "x", "y", "z")
	b.pop(0, 3, "c")
	b.pop(0, 4, "d")
	if !slices.Equal(l, []string{"x", "y", "z"}) {
		t.Fatalf("the list is %q", l)
	}
}

// P12.3: things are kept and told as they are; zero ones among them are things, too.
func TestThings(t *testing.T) {
	lists, _ := jitter.New[[]int](2, 0)
	l := []int{1, 2}
	lists.Push(1, 0, l)
	l[0] = 9
	if n, got, is := lists.Pop(0); n != 1 || !is || &got[0] != &l[0] || got[0] != 9 {
		t.Errorf("Pop = %d, %v, %v", n, got, is)
	}
	lists.Push(2, 0, l)
	lists.Push(3, 0, nil)
	if all := lists.Drain(); len(all) != 2 || &all[0][0] != &l[0] || all[1] != nil {
		t.Errorf("Drain = %v", all)
	}

	pointers, _ := jitter.New[*int](2, 0)
	x := 5
	pointers.Push(0, 0, &x)
	pointers.Push(1, 0, nil)
	if n, got, is := pointers.Pop(0); n != 0 || got != &x || !is {
		t.Errorf("Pop = %d, %v, %v", n, got, is)
	}
	if n, got, is := pointers.Pop(0); n != 1 || got != nil || !is {
		t.Errorf("Pop = %d, %v, %v", n, got, is)
	}

	calls, _ := jitter.New[func() int](1, 0)
	calls.Push(4, 0, func() int { return 44 })
	if n, call, is := calls.Pop(0); n != 4 || !is || call() != 44 {
		t.Errorf("Pop = %d, %v", n, is)
	}
	if n, call, is := calls.Pop(0); n != 0 || is || call != nil {
		t.Errorf("Pop = %d, %v", n, is)
	}

	nothing, _ := jitter.New[struct{}](3, 0)
	nothing.Push(2, 0, struct{}{})
	nothing.Push(1, 0, struct{}{})
	if got := nothing.Drain(); len(got) != 2 {
		t.Errorf("Drain tells %d things", len(got))
	}
}

// R5: buffers know nothing of each other.
func TestTwoBuffers(t *testing.T) {
	a, b := newBuffer(t, 2, 5), newBuffer(t, 2, 5)
	a.push(10, 0, "a", api.OK)
	b.push(10, 0, "b", api.OK)
	a.pop(0, 10, "a")
	b.has(1)
	b.next(0, false)
	b.push(9, 0, "c", api.OK)
	a.push(9, 0, "c", api.ErrLate)
	b.drain("c", "b")
}

// model is a buffer by the chapter's words: all that it holds, and all that ever came out.
type model struct {
	room  int
	wait  int64
	since map[int64]int64
	thing map[int64]int
	out   map[int64]bool
	last  int64
}

func newModel(room int, wait int64) *model {
	return &model{room: room, wait: wait, since: map[int64]int64{}, thing: map[int64]int{}, out: map[int64]bool{}}
}

func (m *model) next() (int64, bool) {
	if len(m.out) == 0 {
		return 0, false
	}
	return m.last + 1, true
}

func (m *model) push(n, now int64, x int) api.Errno {
	next, some := m.next()
	_, twice := m.since[n]
	if twice || m.out[n] && next-n <= far {
		return api.ErrSeen
	}
	if some && n < next {
		return api.ErrLate
	}
	if len(m.since) == m.room {
		return api.ErrFull
	}
	m.since[n], m.thing[n] = now, x
	return api.OK
}

// least tells the least number that it holds.
func (m *model) least() int64 {
	least := int64(math.MaxInt64)
	for n := range m.since {
		least = min(least, n)
	}
	return least
}

func (m *model) ready(now int64) bool {
	if len(m.since) == 0 {
		return false
	}
	next, some := m.next()
	for _, since := range m.since {
		if since+m.wait <= now {
			return true
		}
	}
	return !some || m.least() == next || len(m.since) == m.room
}

func (m *model) take() (int64, int) {
	n := m.least()
	x := m.thing[n]
	delete(m.since, n)
	delete(m.thing, n)
	m.out[n], m.last = true, n
	return n, x
}

// pair is a buffer beside a model, and what came out of both.
type pair struct {
	t       *testing.T
	b       *jitter.Buffer[int]
	m       *model
	numbers []int64
	things  int
}

func newPair(t *testing.T, room int, wait int64) *pair {
	b, e := jitter.New[int](room, wait)
	if e != api.OK {
		t.Fatalf("New(%d, %d): %d", room, wait, e)
	}
	return &pair{t: t, b: b, m: newModel(room, wait)}
}

// push tells what both answer.
func (p *pair) push(n, now int64) api.Errno {
	p.t.Helper()
	p.things++
	want := p.m.push(n, now, p.things)
	if got := p.b.Push(n, now, p.things); got != want {
		p.t.Fatalf("Push(%d, %d) = %d, want %d", n, now, got, want)
	}
	p.same()
	return want
}

// pop tells whether a thing came out of both.
func (p *pair) pop(now int64) bool {
	p.t.Helper()
	var n int64
	var x int
	want := p.m.ready(now)
	if want {
		n, x = p.m.take()
		p.cameOut(n)
	}
	if got := p.b.Ready(now); got != want {
		p.t.Fatalf("Ready(%d) = %v", now, got)
	}
	if gotN, got, is := p.b.Pop(now); gotN != n || got != x || is != want {
		p.t.Fatalf("Pop(%d) = %d, %d, %v, want %d, %d, %v", now, gotN, got, is, n, x, want)
	}
	p.same()
	return want
}

func (p *pair) drain() {
	p.t.Helper()
	var want []int
	for len(p.m.since) > 0 {
		n, x := p.m.take()
		p.cameOut(n)
		want = append(want, x)
	}
	if got := p.b.Drain(); !slices.Equal(got, want) {
		p.t.Fatalf("Drain = %v, want %v", got, want)
	}
	p.same()
}

// cameOut holds P12.4: numbers that come out rise.
func (p *pair) cameOut(n int64) {
	p.t.Helper()
	if len(p.numbers) > 0 && n <= p.numbers[len(p.numbers)-1] {
		p.t.Fatalf("%d came out behind %v", n, p.numbers)
	}
	p.numbers = append(p.numbers, n)
}

func (p *pair) same() {
	p.t.Helper()
	next, some := p.m.next()
	if got, is := p.b.Next(); got != next || is != some {
		p.t.Fatalf("Next = %d, %v, want %d, %v", got, is, next, some)
	}
	if got := p.b.Len(); got != len(p.m.since) {
		p.t.Fatalf("Len = %d, want %d", got, len(p.m.since))
	}
}

// P12.1 to P12.4: each row of five calls of some few, for some rooms and waits.
func TestAllRows(t *testing.T) {
	const kinds, length = 9, 5
	rows := 1
	for range length {
		rows *= kinds
	}
	for _, c := range []struct {
		room int
		wait int64
	}{{1, 1}, {2, 0}, {2, 2}, {3, 2}} {
		for row := range rows {
			p := newPair(t, c.room, c.wait)
			for now := range int64(length) {
				switch kind := row % kinds; kind {
				case 7:
					p.drain()
				case 8:
					p.pop(now + 2)
				case 6:
					p.pop(now)
				default:
					p.push(int64(kind), now)
				}
				row /= kinds
			}
		}
	}
}

// P12.1 to P12.4: long rows without a pattern, with numbers that go on, and leap now and then, and times that mostly rise.
func TestRandomRows(t *testing.T) {
	next := noise()
	for room := 1; room <= api.MostHold; room++ {
		for _, wait := range []int64{0, 1, 3, 10, 1000} {
			for _, width := range []int{3, 12, 90} {
				p := newPair(t, room, wait)
				from, now := int64(100+next(1000)), int64(20)
				for range 600 {
					switch kind := next(40); {
					case kind == 0:
						p.drain()
					case kind < 18:
						p.pop(now)
					default:
						p.push(from+int64(next(width)-width/2), now)
						from += int64(next(3))
					}
					now = max(0, now+int64(next(5)-1))
					if next(100) == 0 {
						from += int64(next(200))
					}
				}
				p.drain()
			}
		}
	}
}

// P12.4: what is held comes out when it waited, however much is missing ahead of it.
func TestWaitEnds(t *testing.T) {
	next := noise()
	for _, wait := range []int64{0, 1, 7, 1000} {
		p := newPair(t, 8, wait)
		p.push(0, 0)
		p.pop(0)
		for round := range int64(50) {
			now := round * 2000
			for range 8 {
				p.push(round*1000+int64(next(900))+2, now+int64(next(5)))
			}
			for p.pop(now + 4 + wait) {
			}
			if got := p.b.Len(); got != 0 {
				t.Fatalf("wait %d: %d are held when all waited", wait, got)
			}
		}
	}
}

// orders tells each order of the numbers from 0 to n less 1.
func orders(n int64) [][]int64 {
	if n == 0 {
		return [][]int64{nil}
	}
	var l [][]int64
	for _, o := range orders(n - 1) {
		for k := range n {
			l = append(l, slices.Insert(slices.Clone(o), int(k), n-1))
		}
	}
	return l
}

// P12.4: what comes in any order, with none left out, comes out in order, and each once: popped when all are there, or, behind the one ahead of them, as soon as may be.
func TestOrders(t *testing.T) {
	for _, order := range orders(7) {
		p := newPair(t, 8, 1000)
		for _, n := range order {
			p.push(n+50, 0)
		}
		for p.pop(0) {
		}
		q := newPair(t, 8, 1000)
		q.push(49, 0)
		q.pop(0)
		for _, n := range order {
			q.push(n+50, 0)
			for q.pop(0) {
			}
			// It is held, or came out.
			if q.push(n+50, 0) != api.ErrSeen {
				t.Fatalf("%d is let in again", n+50)
			}
		}
		if want := []int64{50, 51, 52, 53, 54, 55, 56}; !slices.Equal(p.numbers, want) || !slices.Equal(q.numbers[1:], want) {
			t.Fatalf("of %v came out %v and %v", order, p.numbers, q.numbers)
		}
	}
}

// R1: calls end at numbers and times of which the chapter doesn't speak.
func TestWrong(t *testing.T) {
	odd := []int64{math.MinInt64, math.MinInt64 + 1, -top, -1, 0, 1, top + 1, math.MaxInt64 - 1, math.MaxInt64}
	for _, wait := range []int64{0, 1000} {
		b, _ := jitter.New[int](3, wait)
		for _, n := range odd {
			for _, m := range odd {
				for _, now := range odd {
					b.Push(n, now, 1)
					b.Push(m, now, 2)
					b.Ready(now)
					b.Pop(now)
					b.Next()
					b.Push(m, now, 3)
				}
				if got := b.Drain(); len(got) > 3 || b.Len() != 0 {
					t.Fatalf("Drain tells %d things", len(got))
				}
			}
		}
	}
}
