// Package num is layer 1: see shared/doc/01-num.md.
package num

// halfRound is half of the 2^16 numbers that go round: so far apart, neither of two is the newer one.
const halfRound = 1 << 15

// Put16 and Put32 are numbers as bytes, the highest first; Get16 and Get32 are those at a place of some, and whether they are there.
func Put16(n uint16) []byte {
	return []byte{byte(n >> 8), byte(n)}
}

func Put32(n uint32) []byte {
	return []byte{byte(n >> 24), byte(n >> 16), byte(n >> 8), byte(n)}
}

func Get16(b []byte, at int) (uint16, bool) {
	n, ok := get(b, at, 2)
	return uint16(n), ok
}

func Get32(b []byte, at int) (uint32, bool) {
	return get(b, at, 4)
}

// get is the number of size bytes at a place; size is at most 4.
func get(b []byte, at, size int) (uint32, bool) {
	// at + size may go beyond what an int holds, so size is taken from the length.
	if at < 0 || at > len(b)-size {
		return 0, false
	}
	var n uint32
	for i := range size {
		n = n<<8 | uint32(b[at+i])
	}
	return n, true
}

// Add is the sum of two numbers, or the most, if it is less.
func Add(a, b, most int) int {
	a, b, most = max(a, 0), max(b, 0), max(most, 0)
	// a + b may go beyond what an int holds, so b is held against what a leaves.
	if b > most-a {
		return most
	}
	return a + b
}

// Newer tells whether a number that goes round is newer than another one.
func Newer(a, b uint16) bool {
	ahead := a - b
	return ahead > 0 && ahead < halfRound
}

// Sum is the checksum of bytes.
func Sum(b []byte) uint16 {
	// 64 bits hold the whole sum of as many bytes as there may be: it is folded once, at the end.
	var sum uint64
	for i := range len(b) {
		if i%2 == 0 {
			sum += uint64(b[i]) << 8
		} else {
			sum += uint64(b[i])
		}
	}
fold:
	if over := sum >> 16; over > 0 {
		sum = sum&0xffff + over
		goto fold
	}
	return ^uint16(sum)
}
