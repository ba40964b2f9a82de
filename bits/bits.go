// Package bits is layer 1, bits and bytes of numbers: see shared/doc/01-bits.md.
package bits

// mayBe tells whether a number has so many bits from at on.
func mayBe(at, size int) bool {
	// at comes first: with an at in its range, 64 less at can't go round.
	return 0 <= at && at <= 63 && 0 <= size && size <= 64-at
}

// ones tells the number whose lowest bits, as many as size, are 1, and no others.
func ones(size int) uint64 {
	// Of size 64 the shift leaves 0, and 1 less goes round to all ones.
	return uint64(1)<<size - 1
}

// Field tells the bits of a place.
func Field(n uint64, at, size int) uint64 {
	if !mayBe(at, size) {
		return 0
	}
	return n >> at & ones(size)
}

// Lay lays bits into a place.
func Lay(n uint64, at, size int, v uint64) uint64 {
	if !mayBe(at, size) {
		return n
	}
	place := ones(size) << at
	return n&^place | v<<at&place
}

// Signed tells bits as a number with a sign.
func Signed(n uint64, size int) int64 {
	if size < 1 || size > 64 {
		return 0
	}
	// A shift to the right repeats the sign, but only from the number's very top.
	above := 64 - size
	return int64(n<<above) >> above
}

// Number tells the number that bytes are.
func Number(b []byte) uint64 {
	var n uint64
	for _, x := range b[max(0, len(b)-8):] {
		n = n<<8 | uint64(x)
	}
	return n
}

// Bytes tells the bytes of a number.
func Bytes(n uint64, size int) []byte {
	if size < 0 || size > 8 {
		return nil
	}
	b := make([]byte, size)
	for i := range size {
		b[size-1-i] = byte(n >> (8 * i))
	}
	return b
}
