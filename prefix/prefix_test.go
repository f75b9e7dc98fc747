package prefix

import (
	"math"
	"math/bits"
	"net/netip"
	"slices"
	"strconv"
	"strings"
	"testing"

	"octroi/api"
)

// wrongLens are lengths that no prefix may have.
var wrongLens = []int{-1, -2, -8, -31, -32, -33, -64, 33, 34, 40, 64, 256 + 8, 1 << 31, 1 << 32, 1<<32 + 8, math.MinInt, math.MinInt + 1, math.MinInt + 8, math.MaxInt, math.MaxInt - 1}

// someAddrs are addresses: the least, the greatest, those with one bit, and some that follow no short rule.
func someAddrs() []uint32 {
	out := []uint32{0, math.MaxUint32, 0x7fffffff, 0x0a010203, 0x0a000000, 0xc0a80101, 0x55555555, 0xaaaaaaaa}
	for i := range 32 {
		out = append(out, 1<<i)
	}
	seed := uint32(7)
	for range 40 {
		seed = seed*1664525 + 1013904223
		out = append(out, seed^seed>>15)
	}
	return out
}

// firstBit tells whether the bit i of addr, counted from the highest one, is 1.
func firstBit(addr uint32, i int) bool {
	return addr&(uint32(1)<<31>>i) != 0
}

// slowMask is P2.1, bit by bit.
func slowMask(n int) uint32 {
	var mask uint32
	for i := 0; i < 32 && i < n; i++ {
		mask += 1 << (31 - i)
	}
	return mask
}

// slowMay is P2.2's May, bit by bit.
func slowMay(p api.Prefix) bool {
	if p.Len < 0 || p.Len > 32 {
		return false
	}
	for i := p.Len; i < 32; i++ {
		if firstBit(p.Addr, i) {
			return false
		}
	}
	return true
}

// slowHas is P2.3's Has, bit by bit.
func slowHas(p api.Prefix, addr uint32) bool {
	if !slowMay(p) {
		return false
	}
	for i := range p.Len {
		if firstBit(p.Addr, i) != firstBit(addr, i) {
			return false
		}
	}
	return true
}

// somePrefixes are prefixes that may be, of every Len, and many that may not.
func somePrefixes() []api.Prefix {
	var out []api.Prefix
	for _, addr := range []uint32{0, math.MaxUint32, 0x0a010203, 0x0a000000, 0x80000000, 1, 0x0a80ff01} {
		for n := range 33 {
			out = append(out, api.Prefix{Addr: addr & slowMask(n), Len: n})
		}
		for _, n := range []int{0, 1, 8, 16, 31, 32} {
			out = append(out, api.Prefix{Addr: addr, Len: n})
		}
		for _, n := range wrongLens {
			out = append(out, api.Prefix{Addr: addr, Len: n})
		}
	}
	return out
}

// P2.1: Mask at its edges, and beyond them.
func TestMask(t *testing.T) {
	for n, want := range map[int]uint32{
		0: 0, 1: 0x80000000, 2: 0xc0000000, 7: 0xfe000000, 8: 0xff000000, 9: 0xff800000, 16: 0xffff0000, 24: 0xffffff00, 31: 0xfffffffe, 32: 0xffffffff,
		33: 0xffffffff, 40: 0xffffffff, 64: 0xffffffff, 1 << 32: 0xffffffff, math.MaxInt: 0xffffffff,
		-1: 0, -32: 0, -33: 0, -1 << 32: 0, math.MinInt: 0, math.MinInt + 32: 0,
	} {
		if got := Mask(n); got != want {
			t.Errorf("Mask(%d) = %08x, want %08x", n, got, want)
		}
	}
	for n := -70; n < 200; n++ {
		if got, want := Mask(n), slowMask(n); got != want {
			t.Errorf("Mask(%d) = %08x, want %08x", n, got, want)
		}
	}
}

// P2.1: Bits of every mask.
func TestBitsOfMask(t *testing.T) {
	for n := range 33 {
		if got, ok := Bits(slowMask(n)); got != n || !ok {
			t.Errorf("Bits(%08x) = %d, %v, want %d, true", slowMask(n), got, ok, n)
		}
		if got, ok := Bits(Mask(n)); got != n || !ok {
			t.Errorf("Bits(Mask(%d)) = %d, %v", n, got, ok)
		}
	}
}

// P2.1: numbers that are no mask: a nought ahead of a 1, a gap.
func TestBitsOfNone(t *testing.T) {
	none := []uint32{1, 2, 0x40000000, 0x7fffffff, 0xff00ff00, 0xfffffffd, 0xbfffffff, 0x80000001, 0xfffeffff, 0x00ffffff, 0x7fffff00, 0xff7f0000, 0xfffffeff}
	for a := range 33 {
		for b := range 32 {
			if odd := slowMask(a) ^ 1<<b; bits.OnesCount32(odd) != bits.LeadingZeros32(^odd) {
				none = append(none, odd)
			}
		}
		if low := ^slowMask(a); low != 0 && low != math.MaxUint32 {
			none = append(none, low)
		}
	}
	for _, mask := range none {
		if got, ok := Bits(mask); got != 0 || ok {
			t.Errorf("Bits(%08x) = %d, %v, want 0, false", mask, got, ok)
		}
	}
}

// P2.2: Make of addresses with bits behind the mask, at every Len.
func TestMake(t *testing.T) {
	for _, addr := range someAddrs() {
		for n := range 33 {
			want := api.Prefix{Addr: addr & slowMask(n), Len: n}
			got, e := Make(addr, n)
			if got != want || e != api.OK {
				t.Errorf("Make(%08x, %d) = %v, %d, want %v", addr, n, got, e, want)
			}
			if !May(got) || !Has(got, addr) {
				t.Errorf("Make(%08x, %d) = %v may not be, or has not its address", addr, n, got)
			}
		}
	}
}

// P2.2, P1: with ErrArg there is no prefix.
func TestMakeWrong(t *testing.T) {
	for _, addr := range someAddrs() {
		for _, n := range wrongLens {
			if got, e := Make(addr, n); got != (api.Prefix{}) || e != api.ErrArg {
				t.Errorf("Make(%08x, %d) = %v, %d, want noughts and ErrArg", addr, n, got, e)
			}
		}
	}
}

// P2.2: May, at the edges by hand.
func TestMay(t *testing.T) {
	for _, c := range []struct {
		addr uint32
		len  int
		want bool
	}{
		{0, 0, true},
		{1, 0, false},
		{0x80000000, 0, false},
		{math.MaxUint32, 0, false},
		{0x80000000, 1, true},
		{0x40000000, 1, false},
		{0xc0000000, 1, false},
		{0x0a000000, 8, true},
		{0x0a000001, 8, false},
		{0x0a800000, 8, false},
		{0x0a800000, 9, true},
		{0x0a000000, 7, true},
		{0x0a000000, 6, false},
		{math.MaxUint32, 31, false},
		{math.MaxUint32 - 1, 31, true},
		{math.MaxUint32, 32, true},
		{0, 32, true},
		{0, 33, false},
		{math.MaxUint32, 33, false},
		{0, -1, false},
		{0, math.MinInt, false},
		{0, math.MaxInt, false},
	} {
		if got := May(api.Prefix{Addr: c.addr, Len: c.len}); got != c.want {
			t.Errorf("May(%08x, %d) = %v, want %v", c.addr, c.len, got, c.want)
		}
	}
}

// P2.2: May, at every Len and with every one bit.
func TestMayAll(t *testing.T) {
	for _, p := range somePrefixes() {
		if got, want := May(p), slowMay(p); got != want {
			t.Errorf("May(%v) = %v, want %v", p, got, want)
		}
	}
	for n := range 33 {
		for i := range 32 {
			p := api.Prefix{Addr: 1 << (31 - i), Len: n}
			if got, want := May(p), i < n; got != want {
				t.Errorf("May(%v) = %v, want %v", p, got, want)
			}
		}
	}
}

// P2.3: Has, at the edges by hand.
func TestHas(t *testing.T) {
	ten := api.Prefix{Addr: 0x0a000000, Len: 8}
	whole := api.Prefix{}
	one := api.Prefix{Addr: 0x0a010203, Len: 32}
	for _, c := range []struct {
		p    api.Prefix
		addr uint32
		want bool
	}{
		{ten, 0x0a000000, true},
		{ten, 0x0a010203, true},
		{ten, 0x0affffff, true},
		{ten, 0x0b000000, false},
		{ten, 0x09ffffff, false},
		{ten, 0x8a000000, false},
		{whole, 0, true},
		{whole, 0x0a010203, true},
		{whole, math.MaxUint32, true},
		{one, 0x0a010203, true},
		{one, 0x0a010202, false},
		{one, 0x0a010204, false},
		{api.Prefix{Addr: 0x0a000001, Len: 8}, 0x0a000001, false},
		{api.Prefix{Addr: 0x0a000001, Len: 8}, 0x0a000000, false},
		{api.Prefix{Addr: 0, Len: -1}, 0, false},
		{api.Prefix{Addr: 0x0a010203, Len: 33}, 0x0a010203, false},
	} {
		if got := Has(c.p, c.addr); got != c.want {
			t.Errorf("Has(%v, %08x) = %v, want %v", c.p, c.addr, got, c.want)
		}
	}
}

// P2.3: Has, of all sorts of prefixes and addresses, and of the neighbours of a prefix.
func TestHasAll(t *testing.T) {
	for _, p := range somePrefixes() {
		addrs := append(someAddrs(), p.Addr, p.Addr-1, p.Addr+1)
		if p.Len >= 0 && p.Len <= 32 {
			last := p.Addr | ^slowMask(p.Len)
			addrs = append(addrs, last, last-1, last+1)
		}
		for _, addr := range addrs {
			if got, want := Has(p, addr), slowHas(p, addr); got != want {
				t.Errorf("Has(%v, %08x) = %v, want %v", p, addr, got, want)
			}
		}
	}
}

// P2.3: Covers, at the edges by hand.
func TestCovers(t *testing.T) {
	for _, c := range []struct {
		p, q api.Prefix
		want bool
	}{
		{api.Prefix{Addr: 0x0a000000, Len: 8}, api.Prefix{Addr: 0x0a010000, Len: 16}, true},
		{api.Prefix{Addr: 0x0a010000, Len: 16}, api.Prefix{Addr: 0x0a000000, Len: 8}, false},
		{api.Prefix{Addr: 0x0a000000, Len: 8}, api.Prefix{Addr: 0x0a000000, Len: 8}, true},
		{api.Prefix{Addr: 0x0a000000, Len: 8}, api.Prefix{Addr: 0x0a000000, Len: 9}, true},
		{api.Prefix{Addr: 0x0a000000, Len: 8}, api.Prefix{Addr: 0x0a000000, Len: 7}, false},
		{api.Prefix{Addr: 0x0a000000, Len: 8}, api.Prefix{Addr: 0x0b000000, Len: 8}, false},
		{api.Prefix{Addr: 0x0a000000, Len: 8}, api.Prefix{Addr: 0x0b010000, Len: 16}, false},
		{api.Prefix{}, api.Prefix{}, true},
		{api.Prefix{}, api.Prefix{Addr: math.MaxUint32, Len: 32}, true},
		{api.Prefix{Addr: math.MaxUint32, Len: 32}, api.Prefix{}, false},
		{api.Prefix{Addr: 0x0a010203, Len: 32}, api.Prefix{Addr: 0x0a010203, Len: 32}, true},
		{api.Prefix{Addr: 0x0a010203, Len: 32}, api.Prefix{Addr: 0x0a010202, Len: 32}, false},
		// the first may not be
		{api.Prefix{Addr: 0x0a000001, Len: 8}, api.Prefix{Addr: 0x0a010000, Len: 16}, false},
		{api.Prefix{Addr: 0, Len: -1}, api.Prefix{}, false},
		{api.Prefix{Addr: 0, Len: math.MinInt}, api.Prefix{}, false},
		// the second may not be
		{api.Prefix{Addr: 0x0a000000, Len: 8}, api.Prefix{Addr: 0x0a010001, Len: 16}, false},
		{api.Prefix{}, api.Prefix{Addr: 0, Len: 33}, false},
		{api.Prefix{}, api.Prefix{Addr: 0, Len: math.MaxInt}, false},
		// neither may be, though they are the same
		{api.Prefix{Addr: 1, Len: 8}, api.Prefix{Addr: 1, Len: 8}, false},
		{api.Prefix{Addr: 0, Len: 33}, api.Prefix{Addr: 0, Len: 33}, false},
		{api.Prefix{Addr: 0, Len: -1}, api.Prefix{Addr: 0, Len: -1}, false},
	} {
		if got := Covers(c.p, c.q); got != c.want {
			t.Errorf("Covers(%v, %v) = %v, want %v", c.p, c.q, got, c.want)
		}
	}
}

// P2.3: Covers and Less of every two, in either order.
func TestPairs(t *testing.T) {
	all := somePrefixes()
	for _, p := range all {
		for _, q := range all {
			covers := slowMay(p) && slowMay(q) && q.Len >= p.Len && slowHas(p, q.Addr)
			if got := Covers(p, q); got != covers {
				t.Fatalf("Covers(%v, %v) = %v, want %v", p, q, got, covers)
			}
			less := p.Addr < q.Addr || p.Addr == q.Addr && p.Len < q.Len
			if got := Less(p, q); got != less {
				t.Fatalf("Less(%v, %v) = %v, want %v", p, q, got, less)
			}
			if p != q && less == Less(q, p) {
				t.Fatalf("Less of %v and %v is %v both ways", p, q, less)
			}
		}
		if Less(p, p) {
			t.Errorf("%v is Less than itself", p)
		}
		if Covers(p, p) != slowMay(p) {
			t.Errorf("Covers(%v, %v) = %v", p, p, Covers(p, p))
		}
	}
}

// P2.3: Less, by hand: Addr is without a sign, and goes ahead of Len.
func TestLess(t *testing.T) {
	rising := []api.Prefix{
		{Addr: 0, Len: math.MinInt},
		{Addr: 0, Len: -1},
		{Addr: 0, Len: 0},
		{Addr: 0, Len: 1},
		{Addr: 0, Len: 32},
		{Addr: 0, Len: math.MaxInt},
		{Addr: 1, Len: 0},
		{Addr: 0x0a000000, Len: 8},
		{Addr: 0x0a000000, Len: 16},
		{Addr: 0x0a010000, Len: 8},
		{Addr: 0x7fffffff, Len: 32},
		{Addr: 0x80000000, Len: 1},
		{Addr: math.MaxUint32, Len: math.MinInt},
		{Addr: math.MaxUint32, Len: 32},
	}
	for i, p := range rising {
		for j, q := range rising {
			if got := Less(p, q); got != (i < j) {
				t.Errorf("Less(%v, %v) = %v, want %v", p, q, got, i < j)
			}
		}
	}
}

// P2.4: Show, also of prefixes that may not be.
func TestShow(t *testing.T) {
	for _, c := range []struct {
		addr uint32
		len  int
		want string
	}{
		{0, 0, "0.0.0.0/0"},
		{math.MaxUint32, 32, "255.255.255.255/32"},
		{0x0a000000, 8, "10.0.0.0/8"},
		{0x01020304, 32, "1.2.3.4/32"},
		{0x0a64c809, 30, "10.100.200.9/30"},
		{0x80000000, 1, "128.0.0.0/1"},
		{0x00000001, 32, "0.0.0.1/32"},
		{0x63646509, 10, "99.100.101.9/10"},
		{0x0a000001, 8, "10.0.0.1/8"},
		{0x0a000000, 33, "10.0.0.0/33"},
		{0, math.MaxInt, "0.0.0.0/9223372036854775807"},
		{0, -1, "0.0.0.0/-1"},
		{0x01020304, -8, "1.2.3.4/-8"},
		{0, -10, "0.0.0.0/-10"},
		{0, math.MinInt + 1, "0.0.0.0/-9223372036854775807"},
	} {
		if got := Show(api.Prefix{Addr: c.addr, Len: c.len}); got != c.want {
			t.Errorf("Show(%08x, %d) = %q, want %q", c.addr, c.len, got, c.want)
		}
	}
	// nothing is said of this text, but that there is one
	Show(api.Prefix{Len: math.MinInt})
}

// P2.4: each byte of an address stands at its own place.
func TestShowBytes(t *testing.T) {
	for b := range 256 {
		digits := strconv.Itoa(b)
		for at := range 4 {
			parts := []string{"7", "7", "7", "7"}
			parts[at] = digits
			addr := uint32(0x07070707)&^(0xff<<(24-8*at)) | uint32(b)<<(24-8*at)
			want := strings.Join(parts, ".") + "/32"
			p := api.Prefix{Addr: addr, Len: 32}
			if got := Show(p); got != want {
				t.Errorf("Show(%v) = %q, want %q", p, got, want)
			}
			if got, e := Parse(want); got != p || e != api.OK {
				t.Errorf("Parse(%q) = %v, %d, want %v", want, got, e, p)
			}
		}
	}
}

// P2.4: texts that are prefixes.
func TestParse(t *testing.T) {
	for s, want := range map[string]api.Prefix{
		"0.0.0.0/0":          {},
		"0.0.0.0/32":         {Addr: 0, Len: 32},
		"255.255.255.255/32": {Addr: math.MaxUint32, Len: 32},
		"255.255.255.254/31": {Addr: math.MaxUint32 - 1, Len: 31},
		"10.0.0.0/8":         {Addr: 0x0a000000, Len: 8},
		"10.1.0.0/16":        {Addr: 0x0a010000, Len: 16},
		"128.0.0.0/1":        {Addr: 0x80000000, Len: 1},
		"0.0.0.1/32":         {Addr: 1, Len: 32},
		"100.20.3.0/24":      {Addr: 0x64140300, Len: 24},
		"0.0.0.0/9":          {Addr: 0, Len: 9},
		"0.0.0.0/10":         {Addr: 0, Len: 10},
	} {
		if got, e := Parse(s); got != want || e != api.OK {
			t.Errorf("Parse(%q) = %v, %d, want %v", s, got, e, want)
		}
	}
}

// P2.4, P1: texts that are none, with which there is no prefix.
func TestParseWrong(t *testing.T) {
	for _, s := range []string{
		"", "/", ".", "0", "0/0", "8", "/8", ".../", ".../8", "...", "10", "10.", "ten",
		// noughts ahead
		"00.0.0.0/0", "010.0.0.0/8", "10.00.0.0/8", "10.0.01.0/24", "10.0.0.00/8", "10.0.0.0/08", "10.0.0.0/00", "0.0.0.0/032", "0000000000000000000000.0.0.0/0", "10.0.0.0/0000000000000000000008",
		// numbers above 255, lengths above 32
		"256.0.0.0/8", "10.256.0.0/16", "10.0.256.0/24", "10.0.0.256/32", "1000.0.0.0/8", "999.0.0.0/8", "10.0.0.0/33", "10.0.0.0/40", "10.0.0.0/99", "10.0.0.0/100", "10.0.0.0/264", "0.0.0.0/255",
		// numbers that would be ones that may be, if they went round
		"4294967306.0.0.0/8", "18446744073709551626.0.0.0/8", "0.0.0.18446744073709551616/32", "10.0.0.0/4294967304", "10.0.0.0/18446744073709551624", "266.0.0.0/8", "10.0.0.0/" + strings.Repeat("9", 1000), strings.Repeat("1", 1000) + ".0.0.0/8",
		// signs and blanks
		"-10.0.0.0/8", "+10.0.0.0/8", "10.-0.0.0/8", "10.0.0.0/-8", "10.0.0.0/+8", "0.0.0.0/-0", "0.0.0.0/+0", "0.0.0.0/-1", " 10.0.0.0/8", "10.0.0.0/8 ", "10. 0.0.0/8", "10 .0.0.0/8", "10.0.0.0 /8", "10.0.0.0/ 8", "10.0.0.0/8\n", "\t10.0.0.0/8", "1 0.0.0.0/8",
		// too few and too many numbers, dots, strokes
		"10.0.0.0", "10.0.0.0/", "10.0.0/8", "10.0/8", "10/8", "10.0.0.0.0/8", "1.2.3.4.5/32", "10..0.0/8", ".10.0.0.0/8", "10.0.0.0./8", "10.0.0./8", "10.0.0.0//8", "10.0.0/0/8", "10/0.0.0/8", "10.0.0.0.8", "10.0.0.0/8/8", "10.0.0.0/8.", "10.0.0.0/8/", "10.0.0.0/8.0", "0000/0",
		// something behind the end
		"10.0.0.0/8x", "10.0.0.0/8\x00", "10.0.0.0/8 10.0.0.0/8", "10.0.0.0/8,", "10.0.0.0/80",
		// a bit behind the mask
		"10.0.0.1/8", "10.128.0.0/8", "128.0.0.0/0", "0.0.0.1/0", "0.0.0.1/31", "64.0.0.0/1", "255.255.255.255/31", "10.1.0.0/8",
		// bytes that are no digits
		"a.0.0.0/8", "10.0.0.0/a", "1a.0.0.0/8", "0x0a.0.0.0/8", "10.0.0.0/0x8", "1_0.0.0.0/8", "10,0,0,0/8", "10.0.0.0\\8", "10.0.0.0:8", "1:.0.0.0/8", "1/.0.0.0/8", "\xff.0.0.0/8", "10.0.0.0/\xff", "١.0.0.0/8", "1\x00.0.0.0/8", "1e1.0.0.0/8",
	} {
		if got, e := Parse(s); got != (api.Prefix{}) || e != api.ErrForm {
			t.Errorf("Parse(%q) = %v, %d, want noughts and ErrForm", s, got, e)
		}
	}
}

// otherParse is P2.4's Parse by the library: its texts are the same, but that it takes bits behind the mask, and longer addresses.
func otherParse(s string) (api.Prefix, bool) {
	got, err := netip.ParsePrefix(s)
	if err != nil || !got.Addr().Is4() || got != got.Masked() {
		return api.Prefix{}, false
	}
	b := got.Addr().As4()
	addr := uint32(b[0])<<24 | uint32(b[1])<<16 | uint32(b[2])<<8 | uint32(b[3])
	return api.Prefix{Addr: addr, Len: got.Bits()}, true
}

// checkParse holds Parse against the library, and against Show.
func checkParse(t *testing.T, s string) {
	t.Helper()
	want, is := otherParse(s)
	got, e := Parse(s)
	if got != want || e == api.OK != is || e != api.OK && e != api.ErrForm {
		t.Fatalf("Parse(%q) = %v, %d, want %v, %v", s, got, e, want, is)
	}
	if e == api.OK && (!May(got) || Show(got) != s) {
		t.Fatalf("Parse(%q) = %v, of which Show is %q", s, got, Show(got))
	}
}

// P2.4: texts that differ from a prefix in one byte: another one, one more, one less.
func TestParseOneByteOff(t *testing.T) {
	for _, s := range []string{"0.0.0.0/0", "10.0.0.0/8", "255.255.255.255/32", "10.100.25.0/24", "128.0.0.0/1", "1.2.3.4/32", "192.168.4.0/30"} {
		for at := range len(s) + 1 {
			checkParse(t, s[:at])
			checkParse(t, s[at:])
			for b := range 256 {
				one := string([]byte{byte(b)})
				checkParse(t, s[:at]+one+s[at:])
				if at < len(s) {
					checkParse(t, s[:at]+one+s[at+1:])
				}
			}
			if at < len(s) {
				checkParse(t, s[:at]+s[at+1:])
			}
		}
	}
}

// P2.4: every short text of the bytes that a prefix is made of, in the places of a number.
func TestParseNumbers(t *testing.T) {
	texts := []string{""}
	for first := 0; first < len(texts); first++ {
		if len(texts[first]) == 3 {
			break
		}
		for _, b := range []byte("0123456789./-") {
			texts = append(texts, texts[first]+string([]byte{b}))
		}
	}
	for _, s := range texts {
		checkParse(t, s+".0.0.0/32")
		checkParse(t, "10."+s+".0.0/32")
		checkParse(t, "10.0.0."+s+"/32")
		checkParse(t, "0.0.0.0/"+s)
		checkParse(t, "10.0.0.0/"+s)
	}
}

// P2.5: Parse of Show is it; what may not be is Show of nothing that may.
func TestParseOfShow(t *testing.T) {
	all := somePrefixes()
	for _, addr := range someAddrs() {
		for n := -2; n < 36; n++ {
			all = append(all, api.Prefix{Addr: addr & slowMask(n), Len: n}, api.Prefix{Addr: addr, Len: n})
		}
	}
	for _, p := range all {
		got, e := Parse(Show(p))
		if slowMay(p) {
			if got != p || e != api.OK {
				t.Errorf("Parse(%q) = %v, %d, want %v", Show(p), got, e, p)
			}
		} else if got != (api.Prefix{}) || e != api.ErrForm {
			t.Errorf("Parse(%q) = %v, %d, want noughts and ErrForm", Show(p), got, e)
		}
	}
}

// P2.5: who Covers one Covers all that this one does.
func TestCoversOfCovered(t *testing.T) {
	var all []api.Prefix
	for _, addr := range []uint32{0x0a010203, 0x0a01ffff, 0, math.MaxUint32} {
		for n := 0; n < 33; n += 2 {
			all = append(all, api.Prefix{Addr: addr & slowMask(n), Len: n}, api.Prefix{Addr: addr, Len: n})
		}
	}
	count := 0
	for _, p := range all {
		for _, q := range all {
			for _, r := range all {
				if Covers(p, q) && Covers(q, r) {
					count++
					if !Covers(p, r) {
						t.Fatalf("%v covers %v, which covers %v: that it does not", p, q, r)
					}
				}
			}
			if Covers(p, q) && (!Has(p, q.Addr) || !Has(p, q.Addr|^slowMask(q.Len))) {
				t.Fatalf("%v covers %v, but has not all of it", p, q)
			}
		}
	}
	if count < 1000 {
		t.Errorf("only %d that cover each other", count)
	}
}

// P2.3: in order of Less, what covers comes ahead of what it covers.
func TestLessIsAnOrder(t *testing.T) {
	all := somePrefixes()
	slices.SortFunc(all, func(p, q api.Prefix) int {
		switch {
		case Less(p, q):
			return -1
		case Less(q, p):
			return 1
		}
		return 0
	})
	for i, p := range all {
		for _, q := range all[i:] {
			if Less(q, p) || p != q && Covers(q, p) {
				t.Fatalf("%v stands ahead of %v", p, q)
			}
		}
	}
}

// The chapter's examples.
func TestExamples(t *testing.T) {
	p, e := Make(0x0a010203, 8)
	if e != api.OK || Show(p) != "10.0.0.0/8" {
		t.Errorf("Make(10.1.2.3, 8) = %q, %d", Show(p), e)
	}
	if q, e := Parse("10.0.0.1/8"); q != (api.Prefix{}) || e != api.ErrForm {
		t.Errorf("Parse(10.0.0.1/8) = %v, %d", q, e)
	}
	q, e := Parse("10.1.0.0/16")
	if e != api.OK || !Covers(p, q) {
		t.Errorf("10.0.0.0/8 does not cover %v, %d", q, e)
	}
}

// R5: nothing hangs on what was asked before.
func TestAskedTwice(t *testing.T) {
	for range 3 {
		if p, e := Parse("10.0.0.0/8"); p != (api.Prefix{Addr: 0x0a000000, Len: 8}) || e != api.OK || Show(p) != "10.0.0.0/8" {
			t.Errorf("Parse = %v, %d", p, e)
		}
		if p, e := Parse("10.0.0.0/08"); p != (api.Prefix{}) || e != api.ErrForm {
			t.Errorf("Parse = %v, %d", p, e)
		}
		if p, e := Make(0, -1); p != (api.Prefix{}) || e != api.ErrArg {
			t.Errorf("Make = %v, %d", p, e)
		}
		if n, ok := Bits(Mask(9)); n != 9 || !ok {
			t.Errorf("Bits = %d, %v", n, ok)
		}
	}
}

// P1, R1: no call panics, at any argument, and all keep to their promises.
func FuzzCalls(f *testing.F) {
	f.Add("10.0.0.0/8", uint32(0x0a010203), 8, uint32(0x0a010000), 16)
	f.Add("", uint32(0), math.MinInt, uint32(math.MaxUint32), math.MaxInt)
	f.Add("255.255.255.255/32", uint32(math.MaxUint32), 32, uint32(math.MaxUint32), 33)
	f.Add("\xff...../-1", uint32(1), -1, uint32(0), 0)
	f.Fuzz(func(t *testing.T, s string, a uint32, n int, b uint32, m int) {
		checkParse(t, s)
		p, q := api.Prefix{Addr: a, Len: n}, api.Prefix{Addr: b, Len: m}
		if Mask(n) != slowMask(min(max(n, 0), 32)) {
			t.Errorf("Mask(%d) = %08x", n, Mask(n))
		}
		if count, ok := Bits(a); ok != (slowMask(bits.OnesCount32(a)) == a) || ok && count != bits.OnesCount32(a) || !ok && count != 0 {
			t.Errorf("Bits(%08x) = %d, %v", a, count, ok)
		}
		if made, e := Make(a, n); e == api.OK != (n >= 0 && n <= 32) || e == api.OK && (!slowMay(made) || !slowHas(made, a)) {
			t.Errorf("Make(%08x, %d) = %v, %d", a, n, made, e)
		}
		if May(p) != slowMay(p) || Has(p, b) != slowHas(p, b) {
			t.Errorf("May(%v) = %v, Has(%v, %08x) = %v", p, May(p), p, b, Has(p, b))
		}
		if Covers(p, q) && Less(q, p) {
			t.Errorf("%v covers %v, which is less", p, q)
		}
		if n != math.MinInt {
			checkParse(t, Show(p))
		}
	})
}
