package trie

import (
	"cmp"
	"math"
	"slices"
	"testing"

	"octroi/api"
	"octroi/prefix"
)

// wrongPrefixes are prefixes that may not be: by their Len, by bits behind it, and by both.
var wrongPrefixes = []api.Prefix{
	{Addr: 0, Len: -1},
	{Addr: 0, Len: -8},
	{Addr: 0, Len: -32},
	{Addr: 0, Len: 33},
	{Addr: 0, Len: 34},
	{Addr: 0, Len: 64},
	{Addr: 0, Len: 256},
	{Addr: 0, Len: math.MinInt},
	{Addr: 0, Len: math.MaxInt},
	{Addr: 0x0a000000, Len: 40},
	{Addr: 0x0a000000, Len: 264},
	{Addr: 0x0a000000, Len: -248},
	{Addr: 0x0a000000, Len: 1<<32 + 8},
	{Addr: 0x0a000000, Len: math.MinInt + 8},
	{Addr: math.MaxUint32, Len: 33},
	{Addr: math.MaxUint32, Len: -1},
	{Addr: math.MaxUint32, Len: math.MaxInt},
	{Addr: 0x0a000001, Len: 8},
	{Addr: 0x0a800000, Len: 8},
	{Addr: 0x0a010000, Len: 8},
	{Addr: 1, Len: 0},
	{Addr: 0x80000000, Len: 0},
	{Addr: math.MaxUint32, Len: 0},
	{Addr: 0x40000000, Len: 1},
	{Addr: 0xc0000000, Len: 1},
	{Addr: 1, Len: 31},
	{Addr: math.MaxUint32, Len: 31},
}

// someNumbers are numbers that a prefix may have: any.
var someNumbers = []int{0, 1, -1, 5, 64, 1 << 31, 1 << 32, -1 << 32, math.MinInt, math.MaxInt}

// slowMask is the first so many bits, by a sum.
func slowMask(bits int) uint32 {
	var mask uint32
	for i := range bits {
		mask += 1 << (31 - i)
	}
	return mask
}

// slowMay is P2.2's May, slowHas P2.3's Has, slowLess its Less.
func slowMay(p api.Prefix) bool {
	return p.Len >= 0 && p.Len <= 32 && p.Addr&^slowMask(p.Len) == 0
}

func slowHas(p api.Prefix, addr uint32) bool {
	return slowMay(p) && (p.Addr^addr)&slowMask(p.Len) == 0
}

func slowLess(p, q api.Prefix) int {
	return cmp.Or(cmp.Compare(p.Addr, q.Addr), cmp.Compare(p.Len, q.Len))
}

// slow is the trie without one: a list of what prefixes have.
type slow struct {
	most int
	list []pair
}

type pair struct {
	p api.Prefix
	n int
}

func (s *slow) index(p api.Prefix) int {
	return slices.IndexFunc(s.list, func(x pair) bool { return x.p == p })
}

func (s *slow) put(p api.Prefix, n int) api.Errno {
	if !slowMay(p) {
		return api.ErrArg
	}
	if i := s.index(p); i >= 0 {
		s.list[i].n = n
		return api.OK
	}
	if len(s.list) >= s.most {
		return api.ErrFull
	}
	s.list = append(s.list, pair{p, n})
	return api.OK
}

func (s *slow) take(p api.Prefix) api.Errno {
	i := s.index(p)
	if i < 0 {
		return api.ErrNone
	}
	s.list = slices.Delete(s.list, i, i+1)
	return api.OK
}

func (s *slow) get(p api.Prefix) (int, bool) {
	if i := s.index(p); i >= 0 {
		return s.list[i].n, true
	}
	return 0, false
}

func (s *slow) find(addr uint32) (api.Prefix, int, bool) {
	best := pair{api.Prefix{Len: -1}, 0}
	for _, x := range s.list {
		if slowHas(x.p, addr) && x.p.Len > best.p.Len {
			best = x
		}
	}
	if best.p.Len < 0 {
		return api.Prefix{}, 0, false
	}
	return best.p, best.n, true
}

func (s *slow) all() []api.Prefix {
	var out []api.Prefix
	for _, x := range s.list {
		out = append(out, x.p)
	}
	slices.SortFunc(out, slowLess)
	return out
}

// nodes is how many the trie needs: the root, and one for each beginning of a prefix that has something.
func (s *slow) nodes() int {
	ways := map[api.Prefix]bool{{}: true}
	for _, x := range s.list {
		for bits := range x.p.Len + 1 {
			ways[api.Prefix{Addr: x.p.Addr & slowMask(bits), Len: bits}] = true
		}
	}
	return len(ways)
}

// both is a trie, and the list that it is held against.
type both struct {
	t    *testing.T
	trie *Trie
	slow *slow
}

func newBoth(t *testing.T, most int) *both {
	b := &both{t, New(most), &slow{most: most}}
	b.check()
	return b
}

func (b *both) put(p api.Prefix, n int) api.Errno {
	b.t.Helper()
	want := b.slow.put(p, n)
	if got := b.trie.Put(p, n); got != want {
		b.t.Fatalf("Put(%v, %d) = %d, want %d", p, n, got, want)
	}
	return want
}

func (b *both) take(p api.Prefix) api.Errno {
	b.t.Helper()
	want := b.slow.take(p)
	if got := b.trie.Take(p); got != want {
		b.t.Fatalf("Take(%v) = %d, want %d", p, got, want)
	}
	return want
}

// check holds Len, All, Get of all that have something, and how many nodes are kept.
func (b *both) check() {
	b.t.Helper()
	want := b.slow.all()
	if got := b.trie.Len(); got != len(want) {
		b.t.Fatalf("Len() = %d, want %d", got, len(want))
	}
	if got := b.trie.All(); !slices.Equal(got, want) {
		b.t.Fatalf("All() = %v, want %v", got, want)
	}
	for _, p := range want {
		b.checkGet(p)
		b.checkFind(p.Addr)
		b.checkFind(p.Addr | ^slowMask(p.Len))
	}
	for _, addr := range []uint32{0, 1, 0x7fffffff, 0x80000000, math.MaxUint32} {
		b.checkFind(addr)
	}
	if got, want := len(b.trie.nodes), b.slow.nodes(); got != want {
		b.t.Fatalf("%d nodes are kept, %d are needed", got, want)
	}
}

func (b *both) checkGet(p api.Prefix) {
	b.t.Helper()
	n, ok := b.slow.get(p)
	if gotN, gotOk := b.trie.Get(p); gotN != n || gotOk != ok {
		b.t.Fatalf("Get(%v) = %d, %v, want %d, %v", p, gotN, gotOk, n, ok)
	}
}

// checkFind holds Find, and P8.3 of what it answers.
func (b *both) checkFind(addr uint32) {
	b.t.Helper()
	p, n, ok := b.slow.find(addr)
	gotP, gotN, gotOk := b.trie.Find(addr)
	if gotP != p || gotN != n || gotOk != ok {
		b.t.Fatalf("Find(%08x) = %v, %d, %v, want %v, %d, %v", addr, gotP, gotN, gotOk, p, n, ok)
	}
	if gotOk && !prefix.Has(gotP, addr) {
		b.t.Fatalf("Find(%08x) = %v, which has not the address", addr, gotP)
	}
	for _, other := range b.trie.All() {
		if prefix.Has(other, addr) && (!gotOk || other.Len > gotP.Len) {
			b.t.Fatalf("Find(%08x) = %v, %v, but %v has it", addr, gotP, gotOk, other)
		}
	}
}

// of is the prefix of an address and so many bits.
func of(addr uint32, bits int) api.Prefix {
	return api.Prefix{Addr: addr & slowMask(bits), Len: bits}
}

// ladder are the 33 prefixes that have an address.
func ladder(addr uint32) []api.Prefix {
	var out []api.Prefix
	for bits := range 33 {
		out = append(out, of(addr, bits))
	}
	return out
}

// somePrefixes are prefixes that may be, of each Len, no two the same, many of which cover others.
func somePrefixes() []api.Prefix {
	var out []api.Prefix
	for _, addr := range []uint32{0, math.MaxUint32, 0x0a010203, 0x0a010280, 0x8a010203, 0x55555555} {
		out = append(out, ladder(addr)...)
	}
	slices.SortFunc(out, slowLess)
	return slices.Compact(out)
}

// chance is numbers that follow no short rule, the same ones each time.
type chance uint64

func (c *chance) next(below int) int {
	*c = *c*6364136223846793005 + 1442695040888963407
	return int(uint64(*c)>>33) % below
}

func (c *chance) addr() uint32 {
	return uint32(c.next(1<<16))<<16 | uint32(c.next(1<<16))
}

// shuffled is a copy in another order.
func (c *chance) shuffled(l []api.Prefix) []api.Prefix {
	out := slices.Clone(l)
	for i := len(out) - 1; i > 0; i-- {
		j := c.next(i + 1)
		out[i], out[j] = out[j], out[i]
	}
	return out
}

// orders calls f with each order of a list.
func orders(l []api.Prefix, f func([]api.Prefix)) {
	if len(l) == 0 {
		f(nil)
		return
	}
	for i := range l {
		rest := slices.Delete(slices.Clone(l), i, i+1)
		orders(rest, func(order []api.Prefix) { f(append([]api.Prefix{l[i]}, order...)) })
	}
}

// wantErrno tells of an error that is another one than is asked for.
func wantErrno(t *testing.T, what string, got, want api.Errno) {
	t.Helper()
	if got != want {
		t.Errorf("%s: %d, want %d", what, got, want)
	}
}

// wantHas holds what a prefix has.
func wantHas(t *testing.T, x *Trie, p api.Prefix, n int, is bool) {
	t.Helper()
	if got, ok := x.Get(p); got != n || ok != is {
		t.Errorf("Get(%v) = %d, %v, want %d, %v", p, got, ok, n, is)
	}
}

// wantAll holds all prefixes that have something, and how many.
func wantAll(t *testing.T, x *Trie, want ...api.Prefix) {
	t.Helper()
	if got := x.All(); !slices.Equal(got, want) {
		t.Errorf("All() = %v, want %v", got, want)
	}
	if got := x.Len(); got != len(want) {
		t.Errorf("Len() = %d, want %d", got, len(want))
	}
}

// wantFound holds what is found for an address, wantNotFound that nothing is.
func wantFound(t *testing.T, x *Trie, addr uint32, p api.Prefix, n int) {
	t.Helper()
	if got, gotN, ok := x.Find(addr); got != p || gotN != n || !ok {
		t.Errorf("Find(%08x) = %v, %d, %v, want %v, %d, true", addr, got, gotN, ok, p, n)
	}
}

func wantNotFound(t *testing.T, x *Trie, addr uint32) {
	t.Helper()
	if got, gotN, ok := x.Find(addr); got != (api.Prefix{}) || gotN != 0 || ok {
		t.Errorf("Find(%08x) = %v, %d, %v, want noughts and false", addr, got, gotN, ok)
	}
}

// Some prefixes of 10.x.
var (
	ten      = api.Prefix{Addr: 0x0a000000, Len: 8}
	tenOne   = api.Prefix{Addr: 0x0a010000, Len: 16}
	tenOneTo = api.Prefix{Addr: 0x0a010203, Len: 32}
	whole    = api.Prefix{}
)

// P8.1: in a new one no prefix has anything, whatever most is.
func TestNew(t *testing.T) {
	for _, most := range []int{0, 1, 2, 5, 64, 1 << 32, math.MaxInt, -1, -2, -64, math.MinInt} {
		x := New(most)
		wantAll(t, x)
		for _, p := range append(somePrefixes(), wrongPrefixes...) {
			wantHas(t, x, p, 0, false)
			wantErrno(t, "Take in a new one", x.Take(p), api.ErrNone)
			wantNotFound(t, x, p.Addr)
		}
		wantAll(t, x)
	}
}

// P8.1: with most 0, or below it, no prefix ever has anything; ErrArg is named ahead of ErrFull.
func TestNoRoom(t *testing.T) {
	for _, most := range []int{0, -1, -2, -64, math.MinInt, math.MinInt + 1} {
		x := New(most)
		for _, p := range somePrefixes() {
			wantErrno(t, "Put without room", x.Put(p, 1), api.ErrFull)
			wantHas(t, x, p, 0, false)
			wantErrno(t, "Take of one that was refused", x.Take(p), api.ErrNone)
		}
		for _, p := range wrongPrefixes {
			wantErrno(t, "Put of one that may not be, without room", x.Put(p, 1), api.ErrArg)
		}
		wantNotFound(t, x, 0)
		wantAll(t, x)
	}
}

// P8.1: with most 1 there is one, and behind a Take another one.
func TestMostOne(t *testing.T) {
	x := New(1)
	wantErrno(t, "Put of the first", x.Put(ten, 7), api.OK)
	wantAll(t, x, ten)
	for _, p := range []api.Prefix{whole, tenOne, tenOneTo, {Addr: 0x0b000000, Len: 8}, {Addr: 0x0a000000, Len: 9}, {Addr: 0x0a000000, Len: 7}} {
		wantErrno(t, "Put of a second", x.Put(p, 8), api.ErrFull)
		wantHas(t, x, p, 0, false)
	}
	wantErrno(t, "Put of the first again", x.Put(ten, 9), api.OK)
	wantHas(t, x, ten, 9, true)
	wantErrno(t, "Take", x.Take(ten), api.OK)
	wantAll(t, x)
	wantErrno(t, "Put behind a Take", x.Put(tenOne, 10), api.OK)
	wantAll(t, x, tenOne)
	wantErrno(t, "Put of the first, now a second", x.Put(ten, 11), api.ErrFull)
	wantHas(t, x, ten, 0, false)
	wantHas(t, x, tenOne, 10, true)
}

// P8.1: prefixes of each Len: alone, and as many as there are of one address.
func TestPutEachLen(t *testing.T) {
	for _, addr := range []uint32{0, math.MaxUint32, 0x0a010203, 0x80000001, 0x55555555, 0xaaaaaaaa} {
		for bits, p := range ladder(addr) {
			x := New(1)
			wantErrno(t, "Put", x.Put(p, bits+100), api.OK)
			wantAll(t, x, p)
			for other, q := range ladder(addr) {
				if other == bits {
					wantHas(t, x, q, bits+100, true)
				} else {
					wantHas(t, x, q, 0, false)
				}
			}
			wantFound(t, x, addr, p, bits+100)
		}
		b := newBoth(t, 33)
		for bits, p := range ladder(addr) {
			b.put(p, bits)
			b.check()
			b.checkFind(addr)
		}
		for _, p := range slices.Backward(ladder(addr)) {
			b.take(p)
			b.check()
			b.checkFind(addr)
		}
	}
}

// P8.1: Put of one that may not be changes nothing, with room and without; Get and Take know nothing of it.
func TestWrongPrefixes(t *testing.T) {
	for _, most := range []int{3, 4} {
		x := New(most)
		x.Put(ten, 1)
		x.Put(whole, 2)
		x.Put(api.Prefix{Addr: 0, Len: 32}, 3)
		for _, p := range wrongPrefixes {
			wantErrno(t, "Put of one that may not be", x.Put(p, 5), api.ErrArg)
			wantHas(t, x, p, 0, false)
			wantErrno(t, "Take of one that may not be", x.Take(p), api.ErrNone)
			wantAll(t, x, whole, api.Prefix{Addr: 0, Len: 32}, ten)
		}
		wantHas(t, x, ten, 1, true)
		wantHas(t, x, whole, 2, true)
		wantHas(t, x, api.Prefix{Addr: 0, Len: 32}, 3, true)
	}
}

// P8.1: every Len from below 0 to above 32, with each one bit of an address.
func TestPutEachBit(t *testing.T) {
	for bits := -3; bits < 70; bits++ {
		for i := range 33 {
			b := newBoth(t, 1)
			p := api.Prefix{Addr: uint32(1 << i), Len: bits}
			b.put(p, 4)
			b.checkGet(p)
			b.check()
			b.take(p)
			b.checkGet(p)
			b.check()
		}
	}
}

// P8.1: Put of one that has something already, with the same and with another number, with room and without.
func TestPutAgain(t *testing.T) {
	for _, most := range []int{2, 3} {
		x := New(most)
		x.Put(ten, 1)
		x.Put(tenOne, 2)
		for _, n := range append(someNumbers, 1, 1, 1) {
			wantErrno(t, "Put again", x.Put(ten, n), api.OK)
			wantHas(t, x, ten, n, true)
			wantFound(t, x, 0x0a020000, ten, n)
			wantErrno(t, "Put again, the same number", x.Put(ten, n), api.OK)
			wantHas(t, x, ten, n, true)
			wantHas(t, x, tenOne, 2, true)
			wantAll(t, x, ten, tenOne)
		}
		wantErrno(t, "Take, once", x.Take(ten), api.OK)
		wantHas(t, x, ten, 0, false)
		wantErrno(t, "Take, twice", x.Take(ten), api.ErrNone)
	}
}

// P8.1: one more than may be is refused, at each most, and has room behind a Take; those on the way to others need none.
func TestFull(t *testing.T) {
	all := somePrefixes()
	for most := range 40 {
		b := newBoth(t, most)
		for i, p := range all {
			want := api.OK
			if i >= most {
				want = api.ErrFull
			}
			wantErrno(t, "Put", b.put(p, i), want)
		}
		b.check()
		for i := range most {
			wantErrno(t, "Put of one more", b.put(all[most+i], -i), api.ErrFull)
			wantErrno(t, "Take", b.take(all[i]), api.OK)
			wantErrno(t, "Put behind a Take", b.put(all[most+i], -i), api.OK)
			wantErrno(t, "Put of that which was taken", b.put(all[i], 5), api.ErrFull)
			b.checkGet(all[i])
			b.check()
		}
	}
}

// P8.1: Take of one that has nothing: never put, only on the way to others, below others, beside them, taken already.
func TestTakeNone(t *testing.T) {
	x := New(5)
	x.Put(tenOne, 3)
	for _, p := range append([]api.Prefix{whole, ten, tenOneTo, of(0x0a010000, 15), of(0x0a010000, 17), of(0x0a018000, 17), of(0x0a000000, 16), of(0x8a010000, 16)}, wrongPrefixes...) {
		wantErrno(t, "Take of one that has nothing", x.Take(p), api.ErrNone)
		wantHas(t, x, p, 0, false)
		wantAll(t, x, tenOne)
		wantHas(t, x, tenOne, 3, true)
	}
	wantErrno(t, "Take", x.Take(tenOne), api.OK)
	for range 3 {
		wantErrno(t, "Take again", x.Take(tenOne), api.ErrNone)
		wantHas(t, x, tenOne, 0, false)
		wantAll(t, x)
	}
	wantErrno(t, "Put of one that was taken", x.Put(tenOne, 4), api.OK)
	wantHas(t, x, tenOne, 4, true)
	wantAll(t, x, tenOne)
}

// P8.1: Take of one leaves to all others what they have: those above it, below it and beside it.
func TestTakeOthers(t *testing.T) {
	all := somePrefixes()
	for i, p := range all {
		b := newBoth(t, len(all))
		for j, q := range all {
			b.put(q, j)
		}
		wantErrno(t, "Take", b.take(p), api.OK)
		b.checkGet(p)
		b.check()
		wantErrno(t, "Put of it again", b.put(p, -i), api.OK)
		b.check()
	}
}

// P8.1: Get tells 0 of one that has 0 from one that has nothing, and gives all numbers back.
func TestGet(t *testing.T) {
	x := New(2)
	for _, n := range someNumbers {
		x.Put(ten, n)
		wantHas(t, x, ten, n, true)
		wantHas(t, x, whole, 0, false)
		wantHas(t, x, tenOne, 0, false)
		x.Take(ten)
		wantHas(t, x, ten, 0, false)
	}
	x.Put(tenOne, 0)
	wantHas(t, x, tenOne, 0, true)
	wantHas(t, x, ten, 0, false)
	wantFound(t, x, 0x0a010203, tenOne, 0)
}

// P8.1: that which a prefix had is not had again by one that comes later.
func TestNothingOld(t *testing.T) {
	x := New(2)
	x.Put(ten, 7)
	x.Take(ten)
	x.Put(tenOneTo, 8)
	wantHas(t, x, ten, 0, false)
	wantFound(t, x, tenOneTo.Addr, tenOneTo, 8)
	wantNotFound(t, x, 0x0a000000)
	x.Put(ten, 0)
	x.Take(tenOneTo)
	wantHas(t, x, ten, 0, true)
	wantFound(t, x, tenOneTo.Addr, ten, 0)
}

// P8.1: All is in order, whatever the order in which they were put.
func TestAllOrder(t *testing.T) {
	five := []api.Prefix{whole, {Addr: 0, Len: 32}, {Addr: 0x0a000000, Len: 8}, {Addr: 0x0a000000, Len: 9}, {Addr: 0x0a800000, Len: 9}}
	orders(five, func(order []api.Prefix) {
		x := New(5)
		for i, p := range order {
			x.Put(p, i)
		}
		wantAll(t, x, five...)
	})
	all := somePrefixes()
	c := chance(3)
	for range 50 {
		x := New(len(all))
		for i, p := range c.shuffled(all) {
			x.Put(p, i)
		}
		wantAll(t, x, all...)
		got := x.All()
		for i := range len(got) - 1 {
			if !prefix.Less(got[i], got[i+1]) {
				t.Fatalf("%v is not less than %v", got[i], got[i+1])
			}
		}
	}
}

// P8.1, R3: what All answers is new memory.
func TestAllIsNew(t *testing.T) {
	x := New(9)
	x.Put(ten, 1)
	x.Put(tenOne, 2)
	x.Put(whole, 3)
	first, second := x.All(), x.All()
	clear(first[:cap(first)])
	if want := []api.Prefix{whole, ten, tenOne}; !slices.Equal(second, want) {
		t.Errorf("one answer was changed, and so was the other: %v", second)
	}
	wantAll(t, x, whole, ten, tenOne)
	wantHas(t, x, ten, 1, true)
	third := x.All()
	x.Take(ten)
	x.Put(tenOneTo, 4)
	if want := []api.Prefix{whole, ten, tenOne}; !slices.Equal(third, want) {
		t.Errorf("the trie was changed, and so was what it had answered: %v", third)
	}
	wantAll(t, x, whole, tenOne, tenOneTo)
}

// P8.2: noughts and false, if nothing was put, or nothing that has the address.
func TestFindNone(t *testing.T) {
	x := New(4)
	for _, addr := range []uint32{0, 1, 0x0a000000, 0x80000000, math.MaxUint32} {
		wantNotFound(t, x, addr)
	}
	x.Put(ten, 7)
	for _, addr := range []uint32{0, 1, 0x09ffffff, 0x0b000000, 0x8a000000, 0x4a000000, 0x08000000, math.MaxUint32} {
		wantNotFound(t, x, addr)
	}
	x.Put(tenOneTo, 8)
	x.Take(ten)
	for _, addr := range []uint32{0x0a010202, 0x0a010204, 0x0a010200, 0x0a000000, 0} {
		wantNotFound(t, x, addr)
	}
}

// P8.2: one that has the address, at its edges.
func TestFindOne(t *testing.T) {
	for bits := range 33 {
		p := of(0xa5a5a5a5, bits)
		b := newBoth(t, 1)
		b.put(p, bits)
		wantFound(t, b.trie, p.Addr, p, bits)
		wantFound(t, b.trie, 0xa5a5a5a5, p, bits)
		wantFound(t, b.trie, p.Addr+(1<<(32-bits)-1), p, bits)
		if bits > 0 {
			wantNotFound(t, b.trie, p.Addr-1)
			wantNotFound(t, b.trie, p.Addr+1<<(32-bits))
		}
		for i := range 32 {
			b.checkFind(0xa5a5a5a5 ^ 1<<i)
		}
	}
}

// P8.2: several that cover each other, put in each order; taken the longest first, a shorter one first, all.
func TestFindSeveral(t *testing.T) {
	five := []api.Prefix{whole, ten, tenOne, of(0x0a010200, 24), tenOneTo}
	addrs := []uint32{0, math.MaxUint32, 0x0a000000, 0x0affffff, 0x0b000000, 0x0a010000, 0x0a01ffff, 0x0a020000, 0x0a010200, 0x0a0102ff, 0x0a010202, 0x0a010203, 0x0a010204, 0x0a010300}
	orders(five, func(order []api.Prefix) {
		b := newBoth(t, 5)
		for i, p := range order {
			b.put(p, 10*i+p.Len)
			for _, addr := range addrs {
				b.checkFind(addr)
			}
		}
		// the order in which they go is another one than that in which they came
		for i := range order {
			b.take(order[(i*2+1)%5])
			for _, addr := range addrs {
				b.checkFind(addr)
			}
			b.check()
		}
		wantNotFound(t, b.trie, 0x0a010203)
	})
}

// P8.2: by hand, behind a Take of the longest, of a shorter one, and of all.
func TestFindBehindTake(t *testing.T) {
	x := New(4)
	for i, p := range []api.Prefix{tenOne, whole, tenOneTo, ten} {
		x.Put(p, i+1)
	}
	wantFound(t, x, 0x0a010203, tenOneTo, 3)
	wantFound(t, x, 0x0a010204, tenOne, 1)
	wantFound(t, x, 0x0a020000, ten, 4)
	wantFound(t, x, 0x0b000000, whole, 2)
	x.Take(tenOneTo)
	wantFound(t, x, 0x0a010203, tenOne, 1)
	x.Take(ten)
	wantFound(t, x, 0x0a010203, tenOne, 1)
	wantFound(t, x, 0x0a020000, whole, 2)
	x.Take(tenOne)
	wantFound(t, x, 0x0a010203, whole, 2)
	wantFound(t, x, 0, whole, 2)
	wantFound(t, x, math.MaxUint32, whole, 2)
	x.Take(whole)
	wantNotFound(t, x, 0x0a010203)
	wantNotFound(t, x, 0)
	wantNotFound(t, x, math.MaxUint32)
}

// nearSet is a set of prefixes that lie close together, so that many cover others, and addresses in and around them.
func nearSet(c *chance, size int) ([]api.Prefix, []uint32) {
	base := c.addr()
	var set []api.Prefix
	var addrs []uint32
	for range size {
		addr := base
		for range c.next(4) {
			addr ^= 1 << c.next(32)
		}
		set = append(set, of(addr, c.next(33)))
		addrs = append(addrs, addr, addr^1<<c.next(32), c.addr())
	}
	return set, addrs
}

// P8.3: for many sets and many addresses, what is found has the address, and no longer one has it.
func TestFindMany(t *testing.T) {
	c := chance(11)
	for round := range 600 {
		size := round%40 + 1
		b := newBoth(t, size-round%3)
		set, addrs := nearSet(&c, size)
		for i, p := range set {
			b.put(p, i)
		}
		for i, addr := range addrs {
			b.checkFind(addr)
			if i%5 == 0 {
				b.take(set[c.next(size)])
			}
		}
		b.check()
	}
}

// P8.1 to P8.3: many calls in any order, all held against the list; what comes and goes leaves nothing behind.
func TestManyCalls(t *testing.T) {
	c := chance(5)
	for round := range 60 {
		set, addrs := nearSet(&c, 1+round)
		set = append(set, wrongPrefixes...)
		b := newBoth(t, c.next(round+2))
		for range 400 {
			p := set[c.next(len(set))]
			if c.next(2) == 0 {
				b.put(p, c.next(9)-4)
			} else {
				b.take(p)
			}
			b.checkGet(p)
			b.checkFind(addrs[c.next(len(addrs))])
			b.check()
		}
		for _, p := range set {
			b.take(p)
		}
		b.check()
		if len(b.trie.nodes) != 1 {
			t.Fatalf("all were taken, but %d nodes are kept", len(b.trie.nodes))
		}
	}
}

// P8.1: as many as there is room for, where that is a great number.
func TestManyPrefixes(t *testing.T) {
	const count = 1 << 14
	x := New(count)
	for i := range uint32(count) {
		// the bits in another order, so that they come in no rising one
		wantErrno(t, "Put", x.Put(of(i*40503<<18, 14), int(i)), api.OK)
	}
	wantErrno(t, "Put of one more", x.Put(whole, 1), api.ErrFull)
	all := x.All()
	if len(all) != count || x.Len() != count || !slices.IsSortedFunc(all, slowLess) {
		t.Fatalf("%d, %d prefixes, want %d in order", len(all), x.Len(), count)
	}
	for i := range uint32(count) {
		p := of(i*40503<<18, 14)
		wantHas(t, x, p, int(i), true)
		wantFound(t, x, p.Addr+i, p, int(i))
		wantErrno(t, "Take", x.Take(p), api.OK)
		wantNotFound(t, x, p.Addr+i)
	}
	wantAll(t, x)
}

// R5: one trie knows nothing of another one; to ask changes nothing.
func TestApart(t *testing.T) {
	x, y := New(3), New(3)
	x.Put(ten, 1)
	y.Put(ten, 2)
	y.Put(tenOne, 3)
	for range 3 {
		wantHas(t, x, ten, 1, true)
		wantHas(t, x, tenOne, 0, false)
		wantFound(t, x, 0x0a010203, ten, 1)
		wantAll(t, x, ten)
		wantFound(t, y, 0x0a010203, tenOne, 3)
		wantAll(t, y, ten, tenOne)
	}
	y.Take(ten)
	wantHas(t, x, ten, 1, true)
	wantHas(t, y, ten, 0, false)
}

// The chapter's examples.
func TestExamples(t *testing.T) {
	for _, order := range [][]api.Prefix{{ten, tenOne}, {tenOne, ten}} {
		x := New(2)
		for _, p := range order {
			n := 1
			if p == tenOne {
				n = 2
			}
			wantErrno(t, "Put", x.Put(p, n), api.OK)
		}
		wantFound(t, x, 0x0a010203, api.Prefix{Addr: 0x0a010000, Len: 16}, 2)
		wantFound(t, x, 0x0a020000, api.Prefix{Addr: 0x0a000000, Len: 8}, 1)
	}
}

// P1, R1: no call panics, at any argument, and all keep to their promises; the steps are six bytes each.
func FuzzCalls(f *testing.F) {
	f.Add(4, []byte{0, 8, 10, 0, 0, 0, 0, 16, 10, 1, 0, 0, 1, 8, 10, 0, 0, 0}, uint32(0x0a010203), 8)
	f.Add(0, []byte{0, 0, 0, 0, 0, 0}, uint32(0), 0)
	f.Add(math.MinInt, []byte{2, 32, 255, 255, 255, 255}, uint32(math.MaxUint32), math.MinInt)
	f.Add(math.MaxInt, []byte{0, 32, 10, 1, 2, 3, 0, 0, 0, 0, 0, 0, 3, 33, 10, 1, 2, 3, 1, 32, 10, 1, 2, 3}, uint32(1), math.MaxInt)
	f.Fuzz(func(t *testing.T, most int, steps []byte, addr uint32, bits int) {
		b := newBoth(t, most)
		for len(steps) >= 6 && len(b.slow.list) < 50 {
			kind, n := steps[0], int(steps[1])
			at := uint32(steps[2])<<24 | uint32(steps[3])<<16 | uint32(steps[4])<<8 | uint32(steps[5])
			steps = steps[6:]
			p := api.Prefix{Addr: at, Len: n}
			if kind&2 == 0 {
				p = of(at, n%33)
			}
			if kind&1 == 0 {
				b.put(p, int(kind)-n)
			} else {
				b.take(p)
			}
			b.checkGet(p)
			b.checkFind(at)
			b.check()
		}
		p := api.Prefix{Addr: addr, Len: bits}
		b.put(p, bits)
		b.checkGet(p)
		b.check()
		b.take(p)
		b.checkGet(p)
		b.checkFind(addr)
		b.check()
	})
}
