package num

import (
	"bytes"
	"math"
	"testing"
)

// somePlaces are places in so many bytes: below 0, within, at the end, past it, and as great and as small as an int may be.
func somePlaces(n int) []int {
	out := []int{math.MinInt, math.MinInt + 1, math.MinInt + 4, math.MaxInt, math.MaxInt - 1, math.MaxInt - 2, math.MaxInt - 3, math.MaxInt - 4, 1 << 62, 1 << 32, 1 << 31}
	for at := -5; at <= n+5; at++ {
		out = append(out, at)
	}
	return out
}

// someBytes are n bytes that follow no short period.
func someBytes(n int, seed uint32) []byte {
	out := make([]byte, n)
	for i := range out {
		seed = seed*1664525 + 1013904223
		out[i] = byte(seed >> 24)
	}
	return out
}

// P1.1: the highest byte first.
func TestPut(t *testing.T) {
	for n, want := range map[uint16][]byte{
		0:      {0, 0},
		1:      {0, 1},
		255:    {0, 255},
		256:    {1, 0},
		0x0102: {1, 2},
		0x8000: {0x80, 0},
		65535:  {255, 255},
	} {
		if got := Put16(n); !bytes.Equal(got, want) {
			t.Errorf("Put16(%d) = %v, want %v", n, got, want)
		}
	}
	for n, want := range map[uint32][]byte{
		0:              {0, 0, 0, 0},
		1:              {0, 0, 0, 1},
		0x01020304:     {1, 2, 3, 4},
		0x00ff0000:     {0, 255, 0, 0},
		0x80000000:     {0x80, 0, 0, 0},
		math.MaxUint32: {255, 255, 255, 255},
	} {
		if got := Put32(n); !bytes.Equal(got, want) {
			t.Errorf("Put32(%d) = %v, want %v", n, got, want)
		}
	}
}

// P1.1: what is put is got again, at any place.
func TestGetOfPut(t *testing.T) {
	for n := range 1 << 16 {
		if got, ok := Get16(Put16(uint16(n)), 0); got != uint16(n) || !ok {
			t.Fatalf("Get16(Put16(%d)) = %d, %v", n, got, ok)
		}
		wide := uint32(n)*65537 ^ 0x5a00
		if got, ok := Get32(append([]byte{9, 9, 9}, Put32(wide)...), 3); got != wide || !ok {
			t.Fatalf("Get32 of Put32(%d) = %d, %v", wide, got, ok)
		}
	}
}

// P1.1: every place of bytes of every small length, and places far off.
func TestGetPlaces(t *testing.T) {
	for n := range 12 {
		b := someBytes(n, uint32(n))
		for _, at := range somePlaces(n) {
			var want16 uint16
			var want32 uint32
			is16 := at >= 0 && at < n && n-at >= 2
			is32 := at >= 0 && at < n && n-at >= 4
			if is16 {
				want16 = uint16(b[at])*256 + uint16(b[at+1])
			}
			if is32 {
				want32 = uint32(b[at])*16777216 + uint32(b[at+1])*65536 + uint32(b[at+2])*256 + uint32(b[at+3])
			}
			if got, ok := Get16(b, at); got != want16 || ok != is16 {
				t.Errorf("Get16(%v, %d) = %d, %v, want %d, %v", b, at, got, ok, want16, is16)
			}
			if got, ok := Get32(b, at); got != want32 || ok != is32 {
				t.Errorf("Get32(%v, %d) = %d, %v, want %d, %v", b, at, got, ok, want32, is32)
			}
		}
	}
	for _, at := range somePlaces(0) {
		if n, ok := Get16(nil, at); n != 0 || ok {
			t.Errorf("Get16(nil, %d) = %d, %v", at, n, ok)
		}
		if n, ok := Get32(nil, at); n != 0 || ok {
			t.Errorf("Get32(nil, %d) = %d, %v", at, n, ok)
		}
	}
}

// P1.1: bytes of the array behind a slice's end are not there.
func TestGetKeepsToLength(t *testing.T) {
	b := []byte{1, 2, 3, 4, 5, 6, 7, 8}[:3]
	if n, ok := Get16(b, 2); n != 0 || ok {
		t.Errorf("Get16 = %d, %v", n, ok)
	}
	if n, ok := Get32(b, 0); n != 0 || ok {
		t.Errorf("Get32 = %d, %v", n, ok)
	}
}

// P1.2.
func TestAdd(t *testing.T) {
	const great, small = math.MaxInt, math.MinInt
	for _, c := range []struct{ a, b, most, want int }{
		{5, 20, 16, 16},
		{5, 6, 16, 11},
		{0, 0, 0, 0},
		{0, 0, 16, 0},
		// a bound that is just met, just not met, just passed
		{10, 6, 16, 16},
		{10, 5, 16, 15},
		{10, 7, 16, 16},
		{16, 0, 16, 16},
		{0, 16, 16, 16},
		{17, 0, 16, 16},
		{0, 17, 16, 16},
		{1, 1, 0, 0},
		// numbers below 0
		{-5, 3, 16, 3},
		{3, -5, 16, 3},
		{-5, -3, 16, 0},
		{small, 3, 16, 3},
		{3, small, 16, 3},
		{small, small, great, 0},
		{small, great, great, great},
		// a bound below 0
		{5, 6, -1, 0},
		{0, 0, -1, 0},
		{-5, -6, -7, 0},
		{5, 6, small, 0},
		{great, great, small, 0},
		// sums beyond what an int holds
		{great, 1, great, great},
		{1, great, great, great},
		{great, great, great, great},
		{great, great, 16, 16},
		{great, 1, 16, 16},
		{1 << 62, 1 << 62, great, great},
		{1 << 62, 1<<62 - 1, great, great},
		{1 << 62, 1<<62 - 2, great, great - 1},
		{great, 0, great, great},
		{great - 1, 1, great, great},
	} {
		if got := Add(c.a, c.b, c.most); got != c.want {
			t.Errorf("Add(%d, %d, %d) = %d, want %d", c.a, c.b, c.most, got, c.want)
		}
	}
}

// P1.2, at all small numbers, by the promise's words.
func TestAddSmall(t *testing.T) {
	for a := -4; a < 9; a++ {
		for b := -4; b < 9; b++ {
			for most := -4; most < 20; most++ {
				want := min(max(a, 0)+max(b, 0), max(most, 0))
				if got := Add(a, b, most); got != want {
					t.Errorf("Add(%d, %d, %d) = %d, want %d", a, b, most, got, want)
				}
			}
		}
	}
}

// P1.3, at the edges, from numbers all round.
func TestNewerEdges(t *testing.T) {
	for _, b := range []uint16{0, 1, 2, 5, 1000, 32766, 32767, 32768, 32769, 65533, 65534, 65535} {
		for _, c := range []struct {
			ahead uint16
			want  bool
		}{
			{0, false},
			{1, true},
			{2, true},
			{1<<15 - 1, true},
			{1 << 15, false},
			{1<<15 + 1, false},
			{65534, false},
			{65535, false},
		} {
			if got := Newer(b+c.ahead, b); got != c.want {
				t.Errorf("Newer(%d, %d) = %v, want %v", b+c.ahead, b, got, c.want)
			}
		}
	}
	if !Newer(1, 65535) || Newer(65535, 1) {
		t.Error("1 is newer than 65535")
	}
}

// P1.5: of two numbers just one is newer, unless they are the same or 2^15 apart.
func TestNewerOneOfTwo(t *testing.T) {
	for _, b := range []uint16{0, 1, 77, 32767, 32768, 40000, 65535} {
		for d := range 1 << 16 {
			a := b + uint16(d)
			one, other := Newer(a, b), Newer(b, a)
			if d == 0 || d == 1<<15 {
				if one || other {
					t.Fatalf("Newer of %d and %d: %v, %v", a, b, one, other)
				}
			} else if one == other {
				t.Fatalf("Newer of %d and %d: %v both ways", a, b, one)
			}
			if want := d >= 1 && d <= 1<<15-1; one != want {
				t.Fatalf("Newer(%d, %d) = %v, want %v", a, b, one, want)
			}
		}
	}
}

// P1.4.
func TestSum(t *testing.T) {
	for _, c := range []struct {
		b    []byte
		want uint16
	}{
		{nil, 0xffff},
		{[]byte{}, 0xffff},
		{[]byte{0}, 0xffff},
		{[]byte{0, 0, 0}, 0xffff},
		{[]byte{1}, 0xfeff},
		{[]byte{0xff}, 0x00ff},
		{[]byte{0, 1}, 0xfffe},
		{[]byte{0x12, 0x34}, 0xedcb},
		{[]byte{0x12, 0x34, 0x56}, 0x97cb},
		{[]byte{0, 1, 0xf2, 3}, 0x0dfb},
		{[]byte{0xff, 0xff}, 0},
		// over 16 bits once
		{[]byte{0xff, 0xff, 0, 1}, 0xfffe},
		{[]byte{0x80, 0, 0x80, 0}, 0xfffe},
		{[]byte{0xff, 0xff, 0xff, 0xff}, 0},
		{[]byte{0xff, 0xff, 1}, 0xfeff},
		// ffff + ffff + 1 is 1ffff; folded it is 10000, which goes over again
		{[]byte{0xff, 0xff, 0xff, 0xff, 0, 1}, 0xfffe},
		{[]byte{0xff, 0xff, 0xff, 0xff, 0, 2}, 0xfffd},
		{[]byte{0xff, 0xff, 0xff, 0xff, 1}, 0xfeff},
	} {
		if got := Sum(c.b); got != c.want {
			t.Errorf("Sum(%x) = %04x, want %04x", c.b, got, c.want)
		}
	}
}

// slowSum is P1.4 with the carry added again at each number.
func slowSum(b []byte) uint16 {
	sum := 0
	for i, x := range b {
		n := int(x)
		if i%2 == 0 {
			n *= 256
		}
		sum += n
		if sum > 65535 {
			sum -= 65535
		}
	}
	return uint16(65535 - sum)
}

// P1.4, at many bytes: also at so many that their sum goes over 32 bits.
func TestSumLong(t *testing.T) {
	for n := range 700 {
		b := someBytes(n, uint32(n)*7+1)
		if got, want := Sum(b), slowSum(b); got != want {
			t.Errorf("Sum of %d bytes = %04x, want %04x", n, got, want)
		}
		b = bytes.Repeat([]byte{0xff}, n)
		if got, want := Sum(b), slowSum(b); got != want {
			t.Errorf("Sum of %d bytes ff = %04x, want %04x", n, got, want)
		}
	}
	b := append(bytes.Repeat([]byte{0xff}, 2*0x10003), 0x12, 0x34, 0x56)
	if got, want := Sum(b), slowSum(b); got != want {
		t.Errorf("Sum of %d bytes = %04x, want %04x", len(b), got, want)
	}
}

// P1.5: bytes of an even number with their Sum's two bytes behind them have the Sum 0.
func TestSumOfSummed(t *testing.T) {
	for n := 0; n < 1400; n += 2 {
		for _, b := range [][]byte{someBytes(n, uint32(n)+3), make([]byte, n), bytes.Repeat([]byte{0xff}, n)} {
			if got := Sum(append(b, Put16(Sum(b))...)); got != 0 {
				t.Errorf("Sum of %x with its Sum = %04x", b, got)
			}
		}
	}
	for hi := range 256 {
		for lo := range 256 {
			b := []byte{byte(hi), byte(lo)}
			if got := Sum(append(b, Put16(Sum(b))...)); got != 0 {
				t.Errorf("Sum of %x with its Sum = %04x", b, got)
			}
		}
	}
}

// R3: what is handed in stays as it was, and what is answered is the caller's own.
func TestMemoryIsOwn(t *testing.T) {
	b := someBytes(9, 4)
	was := bytes.Clone(b)
	Get16(b, 2)
	Get32(b, 2)
	Sum(b)
	if !bytes.Equal(b, was) {
		t.Errorf("bytes handed in: %v, were %v", b, was)
	}
	Put16(0x0102)[0] = 77
	Put32(0x01020304)[0] = 77
	if got := Put16(0x0102); !bytes.Equal(got, []byte{1, 2}) {
		t.Errorf("Put16 = %v", got)
	}
	if got := Put32(0x01020304); !bytes.Equal(got, []byte{1, 2, 3, 4}) {
		t.Errorf("Put32 = %v", got)
	}
}

// R5: nothing hangs on what was asked before.
func TestAskedTwice(t *testing.T) {
	b := []byte{0xff, 0xff, 0xff, 0xff, 1}
	for range 3 {
		if Sum(b) != 0xfeff || Add(5, 20, 16) != 16 || !Newer(1, 65535) {
			t.Error("an answer has changed")
		}
		if n, ok := Get16(b, 3); n != 0xff01 || !ok {
			t.Errorf("Get16 = %d, %v", n, ok)
		}
		if n, ok := Get32(b, 2); n != 0 || ok {
			t.Errorf("Get32 = %d, %v", n, ok)
		}
	}
}

// P1, R1: no call panics, at any argument.
func FuzzCalls(f *testing.F) {
	f.Add([]byte{}, 0, 0, 0)
	f.Add([]byte{0xff}, -1, math.MaxInt, math.MinInt)
	f.Add([]byte{1, 2, 3, 4, 5}, math.MaxInt, math.MaxInt, math.MaxInt)
	f.Add([]byte{1, 2, 3, 4, 5}, math.MinInt, math.MinInt, math.MinInt)
	f.Fuzz(func(t *testing.T, b []byte, x, y, z int) {
		if n, ok := Get16(b, x); ok && !bytes.Equal(Put16(n), b[x:x+2]) {
			t.Errorf("Get16(%v, %d) = %d", b, x, n)
		}
		if n, ok := Get32(b, x); ok && !bytes.Equal(Put32(n), b[x:x+4]) {
			t.Errorf("Get32(%v, %d) = %d", b, x, n)
		}
		if sum := Add(x, y, z); sum < 0 || sum > max(z, 0) {
			t.Errorf("Add(%d, %d, %d) = %d", x, y, z, sum)
		}
		if Newer(uint16(x), uint16(y)) && Newer(uint16(y), uint16(x)) {
			t.Errorf("Newer of %d and %d", uint16(x), uint16(y))
		}
		if Sum(b) != slowSum(b) {
			t.Errorf("Sum(%v)", b)
		}
	})
}
