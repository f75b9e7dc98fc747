package tags

import (
	"math"
	"math/bits"
	"slices"
	"testing"

	"octroi/api"
)

// noDomains are numbers that are no domain; many would be one, if only their low bits or bytes counted.
var noDomains = []int{-1, -2, -8, -15, -16, -17, -32, -64, -256, 16, 17, 31, 32, 63, 64, 255, 256, 256 + 3, 65535, 65536, 65536 + 3, 1 << 31, 1 << 32, 1<<32 + 3, -1 << 32, -1<<32 + 3, math.MinInt32, math.MaxInt32, math.MinInt, math.MinInt + 1, math.MinInt + 3, math.MaxInt, math.MaxInt - 1}

// value is 2 to the power of a domain, by a product: nothing is shifted.
func value(domain int) int {
	n := 1
	for range domain {
		n *= 2
	}
	return n
}

// slowHas tells whether the bit of a domain is 1, by a division.
func slowHas(tag uint16, domain int) bool {
	if domain < 0 || domain > 15 {
		return false
	}
	return int(tag)/value(domain)%2 == 1
}

// slowAll are the domains of a tag, rising.
func slowAll(tag uint16) []int {
	var out []int
	for domain := range 16 {
		if slowHas(tag, domain) {
			out = append(out, domain)
		}
	}
	return out
}

// slowAdd is P3.2's Add, with a sum for the tag.
func slowAdd(tag uint16, domain int) (uint16, api.Errno) {
	if domain < 0 || domain > 15 {
		return 0, api.ErrArg
	}
	if slowHas(tag, domain) {
		return 0, api.ErrLoop
	}
	return uint16(int(tag) + value(domain)), api.OK
}

// slowOf is P3.2's Of: the first number that is none, or that stood ahead of it, is the error.
func slowOf(l []int) (uint16, api.Errno) {
	sum := 0
	for i, n := range l {
		if n < 0 || n > 15 {
			return 0, api.ErrArg
		}
		if slices.Contains(l[:i], n) {
			return 0, api.ErrLoop
		}
		sum += value(n)
	}
	return uint16(sum), api.OK
}

// everyTag calls f with each of the 65536 tags.
func everyTag(f func(tag uint16)) {
	for n := range 1 << 16 {
		f(uint16(n))
	}
}

// P3.1: Has, by hand: the lowest bit is the domain 0.
func TestHas(t *testing.T) {
	for _, c := range []struct {
		tag    uint16
		domain int
		want   bool
	}{
		{0, 0, false},
		{0, 7, false},
		{0, 15, false},
		{0xffff, 0, true},
		{0xffff, 7, true},
		{0xffff, 15, true},
		{1, 0, true},
		{1, 1, false},
		{1, 15, false},
		{0x8000, 15, true},
		{0x8000, 0, false},
		{0x8000, 14, false},
		{10, 0, false},
		{10, 1, true},
		{10, 2, false},
		{10, 3, true},
		{10, 4, false},
		{0xfffe, 0, false},
		{0x7fff, 15, false},
		{0xffff, 16, false},
		{0xffff, -1, false},
		{0xffff, math.MinInt, false},
		{0xffff, math.MaxInt, false},
	} {
		if got := Has(c.tag, c.domain); got != c.want {
			t.Errorf("Has(%04x, %d) = %v, want %v", c.tag, c.domain, got, c.want)
		}
	}
}

// P3.1: Has, of every tag and every domain, and of numbers that are none.
func TestHasAll(t *testing.T) {
	everyTag(func(tag uint16) {
		for domain := -3; domain < 20; domain++ {
			if got, want := Has(tag, domain), slowHas(tag, domain); got != want {
				t.Fatalf("Has(%04x, %d) = %v, want %v", tag, domain, got, want)
			}
		}
		for _, n := range noDomains {
			if Has(tag, n) {
				t.Fatalf("Has(%04x, %d) = true", tag, n)
			}
		}
	})
}

// P3.1: how many a tag has.
func TestDepth(t *testing.T) {
	for tag, want := range map[uint16]int{0: 0, 1: 1, 0x8000: 1, 0x0100: 1, 3: 2, 10: 2, 0x8001: 2, 0x800a: 3, 0x00ff: 8, 0xff00: 8, 0x5555: 8, 0xaaaa: 8, 0xfffe: 15, 0x7fff: 15, 0xffff: 16} {
		if got := Depth(tag); got != want {
			t.Errorf("Depth(%04x) = %d, want %d", tag, got, want)
		}
	}
	everyTag(func(tag uint16) {
		if got, want := Depth(tag), bits.OnesCount16(tag); got != want {
			t.Fatalf("Depth(%04x) = %d, want %d", tag, got, want)
		}
	})
}

// P3.1: the domains of a tag, rising; the tag of none has an empty list.
func TestAll(t *testing.T) {
	for _, c := range []struct {
		tag  uint16
		want []int
	}{
		{0, nil},
		{1, []int{0}},
		{0x8000, []int{15}},
		{0x8001, []int{0, 15}},
		{10, []int{1, 3}},
		{0x800a, []int{1, 3, 15}},
		{0x0180, []int{7, 8}},
		{0xffff, []int{0, 1, 2, 3, 4, 5, 6, 7, 8, 9, 10, 11, 12, 13, 14, 15}},
	} {
		if got := All(c.tag); !slices.Equal(got, c.want) {
			t.Errorf("All(%04x) = %v, want %v", c.tag, got, c.want)
		}
	}
	everyTag(func(tag uint16) {
		if got, want := All(tag), slowAll(tag); !slices.Equal(got, want) {
			t.Fatalf("All(%04x) = %v, want %v", tag, got, want)
		}
	})
}

// P3.1: Within, by hand, in either order.
func TestWithin(t *testing.T) {
	for _, c := range []struct {
		a, b     uint16
		ab, back bool
	}{
		{0, 0, true, true},
		{0, 1, true, false},
		{0, 0xffff, true, false},
		{10, 10, true, true},
		{0xffff, 0xffff, true, true},
		{0x8000, 0x8000, true, true},
		// one has all of the other
		{2, 10, true, false},
		{8, 10, true, false},
		{10, 0x800a, true, false},
		{0x8000, 0x800a, true, false},
		{0x7fff, 0xffff, true, false},
		{0xfffe, 0xffff, true, false},
		// some in common
		{3, 6, false, false},
		{0x8001, 0x8002, false, false},
		{0x0fff, 0xfff0, false, false},
		// none in common
		{1, 2, false, false},
		{1, 0x8000, false, false},
		{0x5555, 0xaaaa, false, false},
		{0x00ff, 0xff00, false, false},
	} {
		if got := Within(c.a, c.b); got != c.ab {
			t.Errorf("Within(%04x, %04x) = %v, want %v", c.a, c.b, got, c.ab)
		}
		if got := Within(c.b, c.a); got != c.back {
			t.Errorf("Within(%04x, %04x) = %v, want %v", c.b, c.a, got, c.back)
		}
	}
}

// slowWithin is P3.1's Within, domain by domain.
func slowWithin(a, b uint16) bool {
	for domain := range 16 {
		if slowHas(a, domain) && !slowHas(b, domain) {
			return false
		}
	}
	return true
}

// P3.1: Within, of every tag and of some others, and of itself with one domain more or less.
func TestWithinAll(t *testing.T) {
	some := []uint16{0, 1, 2, 10, 0x800a, 0x8000, 0x00ff, 0xff00, 0x5555, 0xaaaa, 0x7fff, 0xfffe, 0xffff}
	everyTag(func(tag uint16) {
		others := append([]uint16{tag, ^tag, tag + 1, tag >> 1}, some...)
		for domain := range 16 {
			others = append(others, tag^uint16(value(domain)))
		}
		for _, other := range others {
			if got, want := Within(tag, other), slowWithin(tag, other); got != want {
				t.Fatalf("Within(%04x, %04x) = %v, want %v", tag, other, got, want)
			}
		}
	})
}

// P3.2: Add, by hand; with an error there is no tag.
func TestAdd(t *testing.T) {
	for _, c := range []struct {
		tag    uint16
		domain int
		want   uint16
		e      api.Errno
	}{
		{0, 0, 1, api.OK},
		{0, 1, 2, api.OK},
		{0, 15, 0x8000, api.OK},
		{1, 15, 0x8001, api.OK},
		{0x8000, 0, 0x8001, api.OK},
		{2, 3, 10, api.OK},
		{0x7fff, 15, 0xffff, api.OK},
		{0xfffe, 0, 0xffff, api.OK},
		{1, 0, 0, api.ErrLoop},
		{0x8000, 15, 0, api.ErrLoop},
		{10, 3, 0, api.ErrLoop},
		{0xffff, 0, 0, api.ErrLoop},
		{0xffff, 7, 0, api.ErrLoop},
		{0xffff, 15, 0, api.ErrLoop},
		{0, 16, 0, api.ErrArg},
		{0, -1, 0, api.ErrArg},
		{10, 16, 0, api.ErrArg},
		{10, -1, 0, api.ErrArg},
		{0xffff, 16, 0, api.ErrArg},
		{0xffff, -1, 0, api.ErrArg},
		{10, math.MinInt, 0, api.ErrArg},
		{10, math.MaxInt, 0, api.ErrArg},
	} {
		if got, e := Add(c.tag, c.domain); got != c.want || e != c.e {
			t.Errorf("Add(%04x, %d) = %04x, %d, want %04x, %d", c.tag, c.domain, got, e, c.want, c.e)
		}
	}
}

// P3.2: Add, of every tag and every domain, and of numbers that are none.
func TestAddAll(t *testing.T) {
	everyTag(func(tag uint16) {
		for domain := -3; domain < 20; domain++ {
			want, wantE := slowAdd(tag, domain)
			got, e := Add(tag, domain)
			if got != want || e != wantE {
				t.Fatalf("Add(%04x, %d) = %04x, %d, want %04x, %d", tag, domain, got, e, want, wantE)
			}
			if e == api.OK && (!Has(got, domain) || Depth(got) != Depth(tag)+1 || !Within(tag, got)) {
				t.Fatalf("Add(%04x, %d) = %04x", tag, domain, got)
			}
		}
		for _, n := range noDomains {
			if got, e := Add(tag, n); got != 0 || e != api.ErrArg {
				t.Fatalf("Add(%04x, %d) = %04x, %d, want 0, ErrArg", tag, n, got, e)
			}
		}
	})
}

// P3.2: Of, by hand: orders, doubles, wrong numbers, and two faults, of which the first one counts.
func TestOf(t *testing.T) {
	for _, c := range []struct {
		l    []int
		want uint16
		e    api.Errno
	}{
		{nil, 0, api.OK},
		{[]int{}, 0, api.OK},
		{[]int{0}, 1, api.OK},
		{[]int{15}, 0x8000, api.OK},
		{[]int{1, 3}, 10, api.OK},
		{[]int{3, 1}, 10, api.OK},
		{[]int{15, 0}, 0x8001, api.OK},
		{[]int{3, 1, 15}, 0x800a, api.OK},
		{[]int{0, 1, 2, 3, 4, 5, 6, 7, 8, 9, 10, 11, 12, 13, 14, 15}, 0xffff, api.OK},
		{[]int{15, 14, 13, 12, 11, 10, 9, 8, 7, 6, 5, 4, 3, 2, 1, 0}, 0xffff, api.OK},
		{[]int{8, 0, 9, 1, 10, 2, 11, 3, 12, 4, 13, 5, 14, 6, 15, 7}, 0xffff, api.OK},
		// a number twice
		{[]int{3, 3}, 0, api.ErrLoop},
		{[]int{0, 0}, 0, api.ErrLoop},
		{[]int{15, 15}, 0, api.ErrLoop},
		{[]int{1, 3, 1}, 0, api.ErrLoop},
		{[]int{1, 3, 5, 7, 3}, 0, api.ErrLoop},
		{[]int{3, 3, 1}, 0, api.ErrLoop},
		{[]int{0, 1, 2, 3, 4, 5, 6, 7, 8, 9, 10, 11, 12, 13, 14, 15, 0}, 0, api.ErrLoop},
		// a number that is no domain
		{[]int{16}, 0, api.ErrArg},
		{[]int{-1}, 0, api.ErrArg},
		{[]int{1, 16}, 0, api.ErrArg},
		{[]int{16, 1}, 0, api.ErrArg},
		{[]int{1, -1, 3}, 0, api.ErrArg},
		{[]int{1, 3, math.MinInt}, 0, api.ErrArg},
		{[]int{1, 3, math.MaxInt}, 0, api.ErrArg},
		{[]int{16, 16}, 0, api.ErrArg},
		{[]int{0, 1, 2, 3, 4, 5, 6, 7, 8, 9, 10, 11, 12, 13, 14, 15, 16}, 0, api.ErrArg},
		// two faults
		{[]int{3, 3, 16}, 0, api.ErrLoop},
		{[]int{16, 3, 3}, 0, api.ErrArg},
		{[]int{3, 16, 3}, 0, api.ErrArg},
		{[]int{1, 2, 2, -1}, 0, api.ErrLoop},
		{[]int{1, -1, 2, 1}, 0, api.ErrArg},
		{[]int{1, 1, 2, -1, 5}, 0, api.ErrLoop},
	} {
		if got, e := Of(c.l); got != c.want || e != c.e {
			t.Errorf("Of(%v) = %04x, %d, want %04x, %d", c.l, got, e, c.want, c.e)
		}
	}
	for _, n := range noDomains {
		for _, l := range [][]int{{n}, {n, 3}, {3, n}, {3, n, 3}} {
			if got, e := Of(l); got != 0 || e != api.ErrArg {
				t.Errorf("Of(%v) = %04x, %d, want 0, ErrArg", l, got, e)
			}
		}
	}
}

// P3.2: a long list ends as a short one does, at its first fault.
func TestOfLong(t *testing.T) {
	long := make([]int, 1<<20)
	if got, e := Of(long); got != 0 || e != api.ErrLoop {
		t.Errorf("Of(noughts) = %04x, %d, want 0, ErrLoop", got, e)
	}
	long[0], long[1] = 5, -7
	if got, e := Of(long); got != 0 || e != api.ErrArg {
		t.Errorf("Of(5, -7, noughts) = %04x, %d, want 0, ErrArg", got, e)
	}
}

// shortLists calls f with every list of at most 4 numbers from -1 to 4 and from 14 to 17.
func shortLists(f func(l []int)) {
	numbers := []int{-1, 0, 1, 2, 3, 4, 14, 15, 16, 17}
	var grow func(l []int)
	grow = func(l []int) {
		f(l)
		if len(l) == 4 {
			return
		}
		for _, n := range numbers {
			grow(append(slices.Clone(l), n))
		}
	}
	grow(nil)
}

// P3.2, P3.3: Of, of every short list: what it is, and what follows if it is a tag.
func TestOfShortLists(t *testing.T) {
	tagged := 0
	shortLists(func(l []int) {
		want, wantE := slowOf(l)
		got, e := Of(l)
		if got != want || e != wantE {
			t.Fatalf("Of(%v) = %04x, %d, want %04x, %d", l, got, e, want, wantE)
		}
		if e != api.OK {
			return
		}
		tagged++
		once := slices.Clone(l)
		slices.Sort(once)
		if len(slices.Compact(once)) != len(l) || Depth(got) != len(l) || !slices.Equal(All(got), once) {
			t.Fatalf("Of(%v) = %04x, Depth %d, All %v", l, got, Depth(got), All(got))
		}
	})
	// the lists of none to four of seven domains, in all orders
	if want := 1 + 7 + 7*6 + 7*6*5 + 7*6*5*4; tagged != want {
		t.Errorf("%d lists are tags, want %d", tagged, want)
	}
}

// P3.3: Of of All is the tag, and All has as many as its Depth, none twice.
func TestOfAll(t *testing.T) {
	everyTag(func(tag uint16) {
		l := All(tag)
		got, e := Of(l)
		if got != tag || e != api.OK {
			t.Fatalf("Of(All(%04x)) = %04x, %d", tag, got, e)
		}
		if len(l) != Depth(tag) || len(slices.Compact(slices.Clone(l))) != len(l) {
			t.Fatalf("All(%04x) = %v, Depth %d", tag, l, Depth(tag))
		}
		slices.Reverse(l)
		if back, e := Of(l); back != tag || e != api.OK {
			t.Fatalf("Of(%v) = %04x, %d, want %04x", l, back, e, tag)
		}
		if len(l) > 0 {
			if got, e := Of(append(l, l[0])); got != 0 || e != api.ErrLoop {
				t.Fatalf("Of(%v, %d) = %04x, %d, want 0, ErrLoop", l, l[0], got, e)
			}
		}
	})
}

// The chapter's examples.
func TestExamples(t *testing.T) {
	if got, e := Of([]int{3, 1}); got != 10 || e != api.OK {
		t.Errorf("Of(3, 1) = %d, %d, want 10", got, e)
	}
	if got, e := Add(10, 3); got != 0 || e != api.ErrLoop {
		t.Errorf("Add(10, 3) = %d, %d, want 0, ErrLoop", got, e)
	}
	if got := All(10); !slices.Equal(got, []int{1, 3}) {
		t.Errorf("All(10) = %v, want 1, 3", got)
	}
}

// R3: a list that is handed in stays as it was, also behind its end.
func TestListStays(t *testing.T) {
	for _, l := range [][]int{{3, 1, 15}, {15, 3, 3, 1}, {3, 16, 1}, {0}} {
		whole := append(slices.Clone(l), 77, 78)
		was := slices.Clone(whole)
		Of(whole[:len(l)])
		if !slices.Equal(whole, was) {
			t.Errorf("Of(%v) made it %v", was, whole)
		}
	}
}

// R3: a list that is answered is the caller's own.
func TestListOwn(t *testing.T) {
	for _, tag := range []uint16{1, 10, 0x800a, 0xffff} {
		first, second := All(tag), All(tag)
		for i := range first {
			first[i] = -5
		}
		_ = append(first, 99)
		if want := slowAll(tag); !slices.Equal(second, want) || !slices.Equal(All(tag), want) {
			t.Errorf("All(%04x) = %v, then %v, want %v", tag, second, All(tag), want)
		}
	}
}

// R5: nothing hangs on what was asked before.
func TestAskedTwice(t *testing.T) {
	for range 3 {
		if got, e := Add(10, 0); got != 11 || e != api.OK {
			t.Errorf("Add(10, 0) = %d, %d", got, e)
		}
		if got, e := Add(10, 3); got != 0 || e != api.ErrLoop {
			t.Errorf("Add(10, 3) = %d, %d", got, e)
		}
		if got, e := Of([]int{3, 16}); got != 0 || e != api.ErrArg {
			t.Errorf("Of(3, 16) = %d, %d", got, e)
		}
		if got, e := Of([]int{3, 1}); got != 10 || e != api.OK {
			t.Errorf("Of(3, 1) = %d, %d", got, e)
		}
		if !Has(10, 3) || Has(10, 16) || Depth(10) != 2 || !Within(2, 10) {
			t.Error("10 has other domains than before")
		}
	}
}

// P1, R1: no call panics, at any argument, and all keep to their promises.
func FuzzCalls(f *testing.F) {
	f.Add(uint16(10), uint16(2), 3, 1, 15, []byte{3, 1})
	f.Add(uint16(0), uint16(0xffff), math.MinInt, math.MaxInt, -1, []byte{})
	f.Add(uint16(0xffff), uint16(0x8000), 16, 15, 0, []byte{0, 1, 2, 3, 4, 5, 6, 7, 8, 9, 10, 11, 12, 13, 14, 15, 16})
	f.Fuzz(func(t *testing.T, a, b uint16, x, y, z int, tail []byte) {
		l := []int{x, y, z}
		for _, n := range l {
			want, wantE := slowAdd(a, n)
			if got, e := Add(a, n); got != want || e != wantE || Has(a, n) != slowHas(a, n) {
				t.Errorf("Add(%04x, %d) = %04x, %d, Has %v", a, n, got, e, Has(a, n))
			}
		}
		if Depth(a) != bits.OnesCount16(a) || !slices.Equal(All(a), slowAll(a)) || Within(a, b) != slowWithin(a, b) {
			t.Errorf("Depth(%04x) = %d, All %v, Within(%04x) %v", a, Depth(a), All(a), b, Within(a, b))
		}
		var numbers []int
		for _, n := range tail {
			numbers = append(numbers, int(int8(n)))
		}
		for _, l := range [][]int{l, numbers, append(numbers, l...)} {
			want, wantE := slowOf(l)
			if got, e := Of(l); got != want || e != wantE {
				t.Errorf("Of(%v) = %04x, %d, want %04x, %d", l, got, e, want, wantE)
			}
		}
	})
}
