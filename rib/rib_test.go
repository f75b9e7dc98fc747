package rib

import (
	"cmp"
	"math"
	"math/bits"
	"slices"
	"testing"

	"octroi/api"
	"octroi/prefix"
)

// Some prefixes, those of 10.x each within the one ahead.
var (
	whole    = api.Prefix{}
	ten      = api.Prefix{Addr: 0x0a000000, Len: 8}
	tenOne   = api.Prefix{Addr: 0x0a010000, Len: 16}
	tenOneTo = api.Prefix{Addr: 0x0a010203, Len: 32}
	eleven   = api.Prefix{Addr: 0x0b000000, Len: 8}
	nought   = api.Prefix{Addr: 0, Len: 32}
)

// wrongPrefixes are prefixes that may not be: by their Len, and by bits behind it.
var wrongPrefixes = []api.Prefix{
	{Addr: 0, Len: -1},
	{Addr: 0, Len: 33},
	{Addr: 0, Len: math.MinInt},
	{Addr: 0, Len: math.MaxInt},
	{Addr: 0x0a000000, Len: 1<<32 + 8},
	{Addr: 0x0a000000, Len: -248},
	{Addr: 0x0a000001, Len: 8},
	{Addr: 0x0a800000, Len: 8},
	{Addr: 1, Len: 0},
	{Addr: 0x80000000, Len: 0},
	{Addr: 1, Len: 31},
	{Addr: math.MaxUint32, Len: 31},
}

// wrongRoutes are routes that may not be: each by one thing alone.
func wrongRoutes() []api.Route {
	var out []api.Route
	for _, p := range wrongPrefixes {
		out = append(out, api.Route{Prefix: p})
	}
	for _, n := range []int{-1, math.MinInt, math.MaxInt, -1 << 32, -1 << 16, -1 << 8, 1 << 40} {
		out = append(out, at(ten, n), api.Route{Distance: n}, api.Route{Metric: n}, api.Route{Next: n})
	}
	for _, n := range []int{16, 17, 32, 256, 65536} {
		out = append(out, at(ten, n), at(whole, n))
	}
	for _, n := range []int{256, 257, 65536} {
		out = append(out, api.Route{Prefix: ten, Distance: n})
	}
	for _, n := range []int{1 << 32, 1<<32 + 1, 1 << 33} {
		out = append(out, api.Route{Prefix: ten, Metric: n})
	}
	for _, n := range []int{33, 34, 64, 256} {
		out = append(out, api.Route{Prefix: ten, Next: n})
	}
	return out
}

// at is a route to a prefix in a domain; mark has it differ from others by its Metric.
func at(p api.Prefix, domain int) api.Route {
	return api.Route{Prefix: p, Domain: domain}
}

func mark(p api.Prefix, domain, metric int) api.Route {
	return api.Route{Prefix: p, Domain: domain, Metric: metric}
}

// slowBetter is P9.1 without Better.
func slowBetter(a, b api.Route) bool {
	return cmp.Or(
		cmp.Compare(bits.OnesCount16(a.Tag), bits.OnesCount16(b.Tag)),
		cmp.Compare(a.Distance, b.Distance),
		cmp.Compare(a.Metric, b.Metric),
		cmp.Compare(a.Domain, b.Domain),
		cmp.Compare(a.Next, b.Next),
		cmp.Compare(a.Tag, b.Tag),
	) < 0
}

// slow is a table without a map and without a trie: a list.
type slow struct {
	most, refused int
	list          []api.Route
}

func (s *slow) index(p api.Prefix, domain int) int {
	return slices.IndexFunc(s.list, func(x api.Route) bool { return x.Prefix == p && x.Domain == domain })
}

func slowMay(x api.Route) bool {
	within := func(n, most int) bool { return n >= 0 && n <= most }
	return prefix.May(x.Prefix) && within(x.Domain, 15) && within(x.Distance, 255) && within(x.Metric, math.MaxUint32) && within(x.Next, 32)
}

func (s *slow) put(x api.Route) api.Errno {
	if !slowMay(x) {
		return api.ErrArg
	}
	if i := s.index(x.Prefix, x.Domain); i >= 0 {
		s.list[i] = x
		return api.OK
	}
	if len(s.list) >= s.most || len(s.list) >= 64 {
		s.refused++
		return api.ErrFull
	}
	s.list = append(s.list, x)
	return api.OK
}

func (s *slow) take(p api.Prefix, domain int) api.Errno {
	i := s.index(p, domain)
	if i < 0 {
		return api.ErrNone
	}
	s.list = slices.Delete(s.list, i, i+1)
	return api.OK
}

// best is the one to a prefix that is Better than all others.
func (s *slow) best(p api.Prefix) (api.Route, bool) {
	for _, x := range s.list {
		beaten := slices.ContainsFunc(s.list, func(y api.Route) bool { return y.Prefix == p && y != x && !slowBetter(x, y) })
		if x.Prefix == p && !beaten {
			return x, true
		}
	}
	return api.Route{}, false
}

func (s *slow) find(addr uint32) (api.Route, bool) {
	longest := api.Prefix{Len: -1}
	for _, x := range s.list {
		if prefix.Has(x.Prefix, addr) && x.Prefix.Len > longest.Len {
			longest = x.Prefix
		}
	}
	return s.best(longest)
}

func (s *slow) all() []api.Route {
	return slices.SortedFunc(slices.Values(s.list), func(a, b api.Route) int {
		return cmp.Or(cmp.Compare(a.Prefix.Addr, b.Prefix.Addr), cmp.Compare(a.Prefix.Len, b.Prefix.Len), cmp.Compare(a.Domain, b.Domain))
	})
}

// both is a table, and the list that it is held against.
type both struct {
	t    *testing.T
	rib  *Rib
	slow *slow
}

func newBoth(t *testing.T, most int) *both {
	t.Helper()
	b := &both{t, New(most), &slow{most: most}}
	b.check()
	return b
}

func (b *both) put(x api.Route) api.Errno {
	b.t.Helper()
	want := b.slow.put(x)
	if got := b.rib.Put(x); got != want {
		b.t.Fatalf("Put(%v) = %d, want %d", x, got, want)
	}
	b.check()
	return want
}

func (b *both) take(p api.Prefix, domain int) api.Errno {
	b.t.Helper()
	want := b.slow.take(p, domain)
	if got := b.rib.Take(p, domain); got != want {
		b.t.Fatalf("Take(%v, %d) = %d, want %d", p, domain, got, want)
	}
	b.check()
	return want
}

// check holds all that a table tells of itself, of the prefixes that have a route and of some that may have none.
func (b *both) check() {
	b.t.Helper()
	want := b.slow.all()
	if got := b.rib.All(); !slices.Equal(got, want) {
		b.t.Fatalf("All() = %v, want %v", got, want)
	}
	if got := b.rib.Refused(); got != b.slow.refused {
		b.t.Fatalf("Refused() = %d, want %d", got, b.slow.refused)
	}
	for _, x := range want {
		b.checkBest(x.Prefix)
		b.checkFind(x.Prefix.Addr)
		b.checkFind(x.Prefix.Addr | ^prefix.Mask(x.Prefix.Len))
		b.checkFind(x.Prefix.Addr - 1)
	}
	for _, p := range []api.Prefix{whole, ten, tenOne, tenOneTo, eleven, nought} {
		b.checkBest(p)
		b.checkFind(p.Addr)
	}
}

func (b *both) checkBest(p api.Prefix) {
	b.t.Helper()
	want, is := b.slow.best(p)
	if got, ok := b.rib.Best(p); got != want || ok != is {
		b.t.Fatalf("Best(%v) = %v, %v, want %v, %v", p, got, ok, want, is)
	}
}

func (b *both) checkFind(addr uint32) {
	b.t.Helper()
	want, is := b.slow.find(addr)
	if got, ok := b.rib.Find(addr); got != want || ok != is {
		b.t.Fatalf("Find(%08x) = %v, %v, want %v, %v", addr, got, ok, want, is)
	}
}

// chance is numbers that follow no short rule, the same ones each time.
type chance uint64

func (c *chance) next(below int) int {
	*c = *c*6364136223846793005 + 1442695040888963407
	return int(uint64(*c)>>33) % below
}

// some is one of a list, shuffled a copy of one in another order.
func some[T any](c *chance, l []T) T {
	return l[c.next(len(l))]
}

func shuffled[T any](c *chance, l []T) []T {
	out := slices.Clone(l)
	for i := len(out) - 1; i > 0; i-- {
		j := c.next(i + 1)
		out[i], out[j] = out[j], out[i]
	}
	return out
}

// route is one to a prefix that may be; its numbers are few, so that many have several in common.
func (c *chance) route(p api.Prefix) api.Route {
	return api.Route{
		Prefix:   p,
		Domain:   some(c, []int{0, 1, 2, 15}),
		Distance: some(c, []int{0, 1, 120, 255}),
		Metric:   some(c, []int{0, 1, 5, math.MaxUint32}),
		Next:     some(c, []int{0, 1, 32}),
		Tag:      some(c, []uint16{0, 1, 2, 3, 4, 6, 0x8000, 0xffff}),
	}
}

// orders calls f with each order of a list.
func orders[T any](l []T, f func([]T)) {
	if len(l) == 0 {
		f(nil)
		return
	}
	for i := range l {
		rest := slices.Delete(slices.Clone(l), i, i+1)
		orders(rest, func(order []T) { f(append([]T{l[i]}, order...)) })
	}
}

func wantErrno(t *testing.T, what string, got, want api.Errno) {
	t.Helper()
	if got != want {
		t.Errorf("%s: %d, want %d", what, got, want)
	}
}

// wantBest, wantFound and wantNothing hold what Best and Find answer.
func wantBest(t *testing.T, r *Rib, want api.Route) {
	t.Helper()
	if got, ok := r.Best(want.Prefix); got != want || !ok {
		t.Errorf("Best(%v) = %v, %v, want %v, true", want.Prefix, got, ok, want)
	}
}

func wantFound(t *testing.T, r *Rib, addr uint32, want api.Route) {
	t.Helper()
	if got, ok := r.Find(addr); got != want || !ok {
		t.Errorf("Find(%08x) = %v, %v, want %v, true", addr, got, ok, want)
	}
}

func wantNothing(t *testing.T, what string, got api.Route, ok bool) {
	t.Helper()
	if got != (api.Route{}) || ok {
		t.Errorf("%s = %v, %v, want noughts and false", what, got, ok)
	}
}

func wantAll(t *testing.T, r *Rib, want ...api.Route) {
	t.Helper()
	if got := r.All(); !slices.Equal(got, want) {
		t.Errorf("All() = %v, want %v", got, want)
	}
}

func wantRefused(t *testing.T, r *Rib, want int) {
	t.Helper()
	if got := r.Refused(); got != want {
		t.Errorf("Refused() = %d, want %d", got, want)
	}
}

// wantBetter holds that a is Better than b, and b not than a.
func wantBetter(t *testing.T, a, b api.Route) {
	t.Helper()
	if !Better(a, b) {
		t.Errorf("Better(%v, %v) is false", a, b)
	}
	if Better(b, a) {
		t.Errorf("Better(%v, %v) is true", b, a)
	}
}

// wantNeither holds that of two none is Better.
func wantNeither(t *testing.T, a, b api.Route) {
	t.Helper()
	if Better(a, b) || Better(b, a) {
		t.Errorf("one of %v and %v is Better: %v, %v", a, b, Better(a, b), Better(b, a))
	}
}

// base is a route that has room above and below in all that it is told by.
var base = api.Route{Prefix: ten, Domain: 7, Distance: 100, Metric: 1000, Next: 9, Tag: 0x0f0}

// changes have the lesser and the greater one, in the order of P9.1, of that in which two routes may differ. The lesser depth has the greater Tag.
var changes = []func(x api.Route, lesser bool) api.Route{
	func(x api.Route, lesser bool) api.Route { x.Tag = pick(lesser, uint16(0x8000), 0x0003); return x },
	func(x api.Route, lesser bool) api.Route { x.Distance = pick(lesser, 20, 30); return x },
	func(x api.Route, lesser bool) api.Route { x.Metric = pick(lesser, 40, 50); return x },
	func(x api.Route, lesser bool) api.Route { x.Domain = pick(lesser, 3, 4); return x },
	func(x api.Route, lesser bool) api.Route { x.Next = pick(lesser, 5, 6); return x },
	func(x api.Route, lesser bool) api.Route { x.Tag = pick(lesser, uint16(0x3), 0x5); return x },
}

func pick[T any](first bool, a, b T) T {
	if first {
		return a
	}
	return b
}

// P9.1: routes that differ in just one, each way round.
func TestBetterByOne(t *testing.T) {
	for _, change := range changes {
		wantBetter(t, change(base, true), change(base, false))
	}
	for _, n := range []int{0, 1, 254, math.MaxUint32 - 1, math.MaxInt - 1, -1, -2, math.MinInt} {
		for _, more := range []int{n + 1, math.MaxInt} {
			wantBetter(t, api.Route{Distance: n}, api.Route{Distance: more})
			wantBetter(t, api.Route{Metric: n}, api.Route{Metric: more})
			wantBetter(t, api.Route{Domain: n}, api.Route{Domain: more})
			wantBetter(t, api.Route{Next: n}, api.Route{Next: more})
		}
	}
}

// P9.1: the number of domains tells, whatever they are; of tags of one depth the lesser one.
func TestBetterByTag(t *testing.T) {
	tags := []uint16{0, 1, 2, 0x8000, 3, 5, 6, 0xc000, 7, 0xe000, 0xfffe, 0xffff}
	for i, lesser := range tags {
		wantNeither(t, api.Route{Tag: lesser}, api.Route{Tag: lesser})
		for _, greater := range tags[i+1:] {
			wantBetter(t, api.Route{Tag: lesser}, api.Route{Tag: greater})
			// other things tell ahead of the Tag, but not ahead of the depth
			near, far := api.Route{Tag: lesser, Next: 1}, api.Route{Tag: greater}
			if bits.OnesCount16(lesser) == bits.OnesCount16(greater) {
				near, far = far, near
			}
			wantBetter(t, near, far)
		}
	}
}

// P9.1: of routes that differ in two or more, the first thing in which they differ tells.
func TestBetterByFirst(t *testing.T) {
	for i, first := range changes {
		a, b := first(base, true), first(base, false)
		for j := i + 1; j < len(changes); j++ {
			if i == 0 && j == len(changes)-1 {
				continue // both change the Tag
			}
			wantBetter(t, changes[j](a, false), changes[j](b, true))
			wantBetter(t, changes[j](a, true), changes[j](b, false))
		}
	}
	wantBetter(t,
		api.Route{Domain: 15, Distance: 255, Metric: math.MaxUint32, Next: 32, Tag: 0x8000},
		api.Route{Domain: 0, Distance: 0, Metric: 0, Next: 0, Tag: 3})
	wantBetter(t,
		api.Route{Domain: 15, Distance: 1, Metric: math.MaxUint32, Next: 32, Tag: 0x8000},
		api.Route{Domain: 0, Distance: 2, Metric: 0, Next: 0, Tag: 1})
	wantBetter(t,
		api.Route{Domain: 15, Distance: 2, Metric: 5, Next: 32, Tag: 0x8000},
		api.Route{Domain: 0, Distance: 2, Metric: 6, Next: 0, Tag: 1})
	wantBetter(t,
		api.Route{Domain: 1, Distance: 2, Metric: 5, Next: 32, Tag: 0x8000},
		api.Route{Domain: 2, Distance: 2, Metric: 5, Next: 0, Tag: 1})
	wantBetter(t,
		api.Route{Domain: 2, Distance: 2, Metric: 5, Next: 1, Tag: 0x8000},
		api.Route{Domain: 2, Distance: 2, Metric: 5, Next: 2, Tag: 1})
}

// P9.1: a route and itself; the prefix does not tell.
func TestBetterByNone(t *testing.T) {
	for _, x := range append(wrongRoutes(), base, api.Route{}, api.Route{Tag: math.MaxUint16}) {
		wantNeither(t, x, x)
		for _, p := range append(wrongPrefixes, whole, ten, eleven) {
			y := x
			y.Prefix = p
			wantNeither(t, x, y)
		}
	}
}

// P9.1, P1: routes with any numbers are held against each other as the order says.
func TestBetterMany(t *testing.T) {
	c := chance(1)
	far := []int{0, 1, -1, 2, 15, 16, 255, 256, 1 << 31, 1 << 32, -1 << 32, math.MinInt, math.MinInt + 1, math.MaxInt - 1, math.MaxInt}
	wild := func() api.Route {
		return api.Route{Prefix: ten, Domain: some(&c, far[:3]), Distance: some(&c, far), Metric: some(&c, far), Next: some(&c, far[:3]), Tag: uint16(c.next(9))}
	}
	for range 20000 {
		a, b := wild(), wild()
		if c.next(2) == 0 {
			b.Distance, b.Tag = a.Distance, bits.RotateLeft16(a.Tag, c.next(3))
		}
		if c.next(2) == 0 {
			b.Metric, b.Domain = a.Metric, a.Domain
		}
		if got, want := Better(a, b), slowBetter(a, b); got != want {
			t.Fatalf("Better(%v, %v) = %v, want %v", a, b, got, want)
		}
	}
}

// P9.4: of two to one prefix that are not the same, just one is Better; whoever is Better than one that is Better than a third is Better than that.
func TestBetterIsOrder(t *testing.T) {
	c := chance(2)
	for range 20000 {
		a, b, d := c.route(ten), c.route(ten), c.route(ten)
		if c.next(2) == 0 {
			b = some(&c, changes)(a, c.next(2) == 0)
		}
		if a == b {
			wantNeither(t, a, b)
		} else if Better(a, b) == Better(b, a) {
			t.Fatalf("of %v and %v not just one is Better: %v", a, b, Better(a, b))
		}
		if Better(a, b) && Better(b, d) && !Better(a, d) {
			t.Fatalf("%v, %v, %v: each Better than the next, but the first not than the last", a, b, d)
		}
	}
}

// routesOfAll are so many routes that may be, no two of one prefix and domain: several to each prefix.
func routesOfAll(count int) []api.Route {
	var out []api.Route
	for i := range count {
		p, _ := prefix.Make(0x0a000000+uint32(i/5)<<20, 12)
		out = append(out, mark(p, i%5*3, i))
	}
	return out
}

// P9.2: as many as most, and as many as 64; those below 0 are none.
func TestMost(t *testing.T) {
	all := routesOfAll(80)
	for _, most := range []int{math.MinInt, -1 << 32, -64, -1, 0, 1, 2, 5, 31, 63, 64, 65, 66, 79, 100, 128, 1 << 32, math.MaxInt} {
		r := New(most)
		wantAll(t, r)
		wantRefused(t, r, 0)
		room := min(max(most, 0), 64)
		for i, x := range all {
			want := api.OK
			if i >= room {
				want = api.ErrFull
			}
			wantErrno(t, "Put", r.Put(x), want)
			wantRefused(t, r, max(i+1-room, 0))
		}
		wantAll(t, r, all[:room]...)
		got, ok := r.Best(all[79].Prefix)
		wantNothing(t, "Best of one that was refused", got, ok)
		for _, x := range all[:room] {
			wantErrno(t, "Take", r.Take(x.Prefix, x.Domain), api.OK)
		}
		wantAll(t, r)
		wantRefused(t, r, 80-room)
	}
}

// P9.2, P9.3: nothing is in a new one, whatever most is.
func TestNew(t *testing.T) {
	for _, most := range []int{math.MinInt, -1, 0, 1, 64, 65, math.MaxInt} {
		b := newBoth(t, most)
		for _, p := range append(wrongPrefixes, whole, ten) {
			got, ok := b.rib.Best(p)
			wantNothing(t, "Best in a new one", got, ok)
			got, ok = b.rib.Find(p.Addr)
			wantNothing(t, "Find in a new one", got, ok)
			wantErrno(t, "Take in a new one", b.take(p, 0), api.ErrNone)
		}
		wantRefused(t, b.rib, 0)
	}
}

// P9.2: a route that may not be is refused ahead of all else, and changes nothing: with room, without, and when one of its prefix and domain is there.
func TestPutWrong(t *testing.T) {
	for _, most := range []int{-1, 0, 1, 2, 3, 64} {
		b := newBoth(t, most)
		b.put(mark(whole, 0, 3))
		b.put(mark(ten, 0, 4))
		refused := b.rib.Refused()
		for _, x := range wrongRoutes() {
			wantErrno(t, "Put of one that may not be", b.put(x), api.ErrArg)
			wantRefused(t, b.rib, refused)
		}
	}
}

// P9.2: each bound of what a route has may be, and one beyond it may not.
func TestPutBounds(t *testing.T) {
	for _, x := range []api.Route{
		{},
		{Prefix: nought},
		{Prefix: api.Prefix{Addr: math.MaxUint32, Len: 32}},
		{Prefix: api.Prefix{Addr: 0x80000000, Len: 1}},
		{Domain: 15},
		{Distance: 255},
		{Metric: math.MaxUint32},
		{Metric: math.MaxUint32 - 1},
		{Metric: 1 << 31},
		{Next: 32},
		{Tag: 0xffff},
		{Domain: 2, Tag: 4},
		{Prefix: api.Prefix{Addr: math.MaxUint32, Len: 32}, Domain: 15, Distance: 255, Metric: math.MaxUint32, Next: 32, Tag: 0xffff},
	} {
		r := New(1)
		wantErrno(t, "Put at the bounds", r.Put(x), api.OK)
		wantAll(t, r, x)
		wantBest(t, r, x)
		wantFound(t, r, x.Prefix.Addr, x)
		beyond := []api.Route{x, x, x, x, x, x}
		beyond[0].Domain += 16
		beyond[1].Distance += 256
		beyond[2].Metric += 1 << 32
		beyond[3].Next += 33
		beyond[4].Prefix.Len += 33
		beyond[5].Domain -= 16
		for _, y := range beyond {
			wantErrno(t, "Put beyond the bounds", r.Put(y), api.ErrArg)
			wantAll(t, r, x)
		}
		wantErrno(t, "Take", r.Take(x.Prefix, x.Domain), api.OK)
		wantAll(t, r)
	}
}

// P9.2: one of the prefix and domain of another takes its place, whatever else it has, also when there is no room.
func TestPutAgain(t *testing.T) {
	for _, most := range []int{2, 3} {
		b := newBoth(t, most)
		b.put(at(ten, 1))
		b.put(at(ten, 2))
		c := chance(3)
		for i := range 200 {
			x := c.route(ten)
			x.Domain = 1 + i%2
			wantErrno(t, "Put in the place of another", b.put(x), api.OK)
			wantErrno(t, "Put of the same", b.put(x), api.OK)
			if got := b.rib.All(); len(got) != 2 || got[i%2] != x {
				t.Fatalf("%v was put, but All() = %v", x, got)
			}
			wantRefused(t, b.rib, 0)
		}
		wantErrno(t, "Take, once", b.take(ten, 1), api.OK)
		wantErrno(t, "Take, twice", b.take(ten, 1), api.ErrNone)
	}
}

// P9.2: one more than may be is refused, each time; behind a Take there is room again, for the same prefix and for another one.
func TestFull(t *testing.T) {
	for _, most := range []int{1, 2, 5, 64} {
		b := newBoth(t, most)
		for _, x := range routesOfAll(most) {
			b.put(x)
		}
		for i := range 4 {
			for _, x := range []api.Route{at(tenOneTo, i), at(b.rib.All()[0].Prefix, 1), at(whole, 15)} {
				wantErrno(t, "Put of one more", b.put(x), api.ErrFull)
				wantErrno(t, "Put of one more, again", b.put(x), api.ErrFull)
				wantErrno(t, "Put of one that may not be", b.put(api.Route{Next: -1}), api.ErrArg)
			}
			wantRefused(t, b.rib, 6+7*i)
			old := b.rib.All()[most/2]
			wantErrno(t, "Take", b.take(old.Prefix, old.Domain), api.OK)
			wantErrno(t, "Put behind a Take", b.put(at(eleven, i)), api.OK)
			wantErrno(t, "Put of that which was taken", b.put(old), api.ErrFull)
			wantErrno(t, "Take of that which was put", b.take(eleven, i), api.OK)
			wantErrno(t, "Put of that which was taken, with room", b.put(old), api.OK)
		}
	}
}

// P9.2: the same prefix in all domains, and all of them in turn taken.
func TestDomainsOfOne(t *testing.T) {
	c := chance(4)
	for range 20 {
		b := newBoth(t, 16)
		domains := []int{0, 1, 2, 3, 4, 5, 6, 7, 8, 9, 10, 11, 12, 13, 14, 15}
		for _, domain := range shuffled(&c, domains) {
			wantErrno(t, "Put", b.put(mark(ten, domain, c.next(3))), api.OK)
		}
		for i, x := range b.rib.All() {
			if x.Domain != i {
				t.Fatalf("the domains do not rise: %v", b.rib.All())
			}
		}
		for _, domain := range shuffled(&c, domains) {
			wantErrno(t, "Take of a domain", b.take(ten, domain), api.OK)
			wantErrno(t, "Take of it again", b.take(ten, domain), api.ErrNone)
		}
		wantAll(t, b.rib)
		if len(b.rib.routes) != 0 || b.rib.domains.Len() != 0 {
			t.Fatalf("all were taken, but %d routes and %d prefixes are kept", len(b.rib.routes), b.rib.domains.Len())
		}
	}
}

// P9.2: several prefixes in one domain, of which none is another one's.
func TestPrefixesOfOne(t *testing.T) {
	b := newBoth(t, 64)
	prefixes := []api.Prefix{whole, nought, ten, {Addr: 0x0a000000, Len: 9}, {Addr: 0x0a000000, Len: 32}, tenOne, tenOneTo, eleven}
	for _, p := range slices.Backward(prefixes) {
		b.put(mark(p, 5, p.Len))
	}
	for i, x := range b.rib.All() {
		if x != mark(prefixes[i], 5, prefixes[i].Len) {
			t.Errorf("All() = %v, want the prefixes %v", b.rib.All(), prefixes)
		}
	}
	for i, p := range prefixes {
		wantErrno(t, "Take in another domain", b.take(p, 4), api.ErrNone)
		wantErrno(t, "Take", b.take(p, 5), api.OK)
		if got := len(b.rib.All()); got != len(prefixes)-1-i {
			t.Errorf("%d are left behind a Take of %v", got, p)
		}
	}
}

// P9.2: Take of one that is not there: never put, of other domains, no domain at all, a prefix that may not be, others around it.
func TestTakeNone(t *testing.T) {
	b := newBoth(t, 9)
	for _, x := range []api.Route{mark(ten, 0, 1), mark(ten, 2, 2), mark(ten, 15, 3), mark(tenOneTo, 1, 4)} {
		b.put(x)
	}
	all := b.rib.All()
	for _, domain := range []int{1, 3, 14, 16, 17, 18, 31, 32, -1, -14, -16, 1 << 16, 1<<32 + 2, math.MinInt, math.MaxInt} {
		wantErrno(t, "Take of no such domain", b.take(ten, domain), api.ErrNone)
		wantAll(t, b.rib, all...)
	}
	for _, p := range append(wrongPrefixes, whole, tenOne, eleven, nought, api.Prefix{Addr: 0x0a000000, Len: 9}, api.Prefix{Addr: 0x0a000000, Len: 7}) {
		for _, domain := range []int{0, 1, 2, 15, -1, 16} {
			wantErrno(t, "Take of no such prefix", b.take(p, domain), api.ErrNone)
		}
		wantAll(t, b.rib, all...)
	}
	for range 2 {
		wantErrno(t, "Take", b.take(ten, 2), api.OK)
		wantErrno(t, "Take, twice in a row", b.take(ten, 2), api.ErrNone)
		wantErrno(t, "Put of it again", b.put(mark(ten, 2, 9)), api.OK)
	}
}

// P9.2, P9.4: All is in order, and Best and Find the same, whatever the order in which they came, and what came and went.
func TestOrders(t *testing.T) {
	five := []api.Route{
		{Prefix: whole, Domain: 3, Metric: 1},
		{Prefix: ten, Domain: 0, Distance: 120, Metric: 5},
		{Prefix: ten, Domain: 1, Distance: 120, Metric: 4},
		{Prefix: ten, Domain: 2, Distance: 1, Metric: 1, Tag: 2},
		{Prefix: api.Prefix{Addr: 0x0a000000, Len: 9}, Domain: 0, Metric: 7},
	}
	orders(five, func(order []api.Route) {
		r := New(5)
		for _, x := range order {
			wantErrno(t, "Put", r.Put(x), api.OK)
		}
		wantAll(t, r, five...)
		wantBest(t, r, five[2])
		wantFound(t, r, 0x0a800000, five[2])
		wantFound(t, r, 0x0a000000, five[4])
		wantFound(t, r, 0x0b000000, five[0])
		first := order[0]
		r.Take(first.Prefix, first.Domain)
		r.Put(first)
		wantAll(t, r, five...)
		wantBest(t, r, five[2])
	})
}

// nearPrefixes are such as lie close together, so that many cover others.
func nearPrefixes(c *chance, count int) []api.Prefix {
	var out []api.Prefix
	for range count {
		addr := uint32(0x0a010203) ^ 1<<c.next(32)
		p, _ := prefix.Make(addr, c.next(33))
		out = append(out, p)
	}
	return out
}

// P9.4: for many sets, what is answered does not hang on the order.
func TestOrdersMany(t *testing.T) {
	c := chance(5)
	for round := range 200 {
		first := newBoth(t, 64)
		prefixes := nearPrefixes(&c, 1+round%9)
		for range 1 + round%60 {
			first.put(c.route(some(&c, prefixes)))
		}
		set := first.rib.All()
		for range 3 {
			other := New(len(set))
			for _, x := range shuffled(&c, set) {
				wantErrno(t, "Put", other.Put(x), api.OK)
			}
			again := &both{t, other, first.slow}
			again.check()
		}
	}
}

// P9.2, R3: what All answers is new memory.
func TestAllIsNew(t *testing.T) {
	r := New(9)
	want := []api.Route{mark(whole, 4, 1), mark(ten, 0, 2), mark(ten, 1, 3)}
	for _, x := range want {
		r.Put(x)
	}
	first, second := r.All(), r.All()
	clear(first[:cap(first)])
	if !slices.Equal(second, want) {
		t.Errorf("one answer was changed, and so was the other: %v", second)
	}
	wantAll(t, r, want...)
	wantBest(t, r, want[1])
	third := r.All()
	r.Take(ten, 0)
	r.Put(mark(ten, 1, 8))
	r.Put(mark(tenOne, 1, 9))
	if !slices.Equal(third, want) {
		t.Errorf("the table was changed, and so was what it had answered: %v", third)
	}
	wantAll(t, r, want[0], mark(ten, 1, 8), mark(tenOne, 1, 9))
}

// P9.3: Best of none, of one, of several; behind a Take of the one that was Best, and behind a Put that takes its place.
func TestBest(t *testing.T) {
	r := New(5)
	r.Put(mark(tenOne, 3, 0))
	r.Put(mark(whole, 3, 0))
	for _, p := range append(wrongPrefixes, ten, eleven, tenOneTo) {
		got, ok := r.Best(p)
		wantNothing(t, "Best of one without a route", got, ok)
	}
	good, better, best := mark(ten, 9, 5), mark(ten, 4, 4), mark(ten, 7, 3)
	r.Put(good)
	wantBest(t, r, good)
	r.Put(best)
	wantBest(t, r, best)
	r.Put(better)
	wantBest(t, r, best)
	r.Take(ten, 7)
	wantBest(t, r, better)
	r.Put(mark(ten, 4, 6))
	wantBest(t, r, good)
	r.Put(mark(ten, 9, 6))
	wantBest(t, r, mark(ten, 4, 6))
	r.Put(mark(ten, 9, 2))
	wantBest(t, r, mark(ten, 9, 2))
	r.Take(ten, 9)
	wantBest(t, r, mark(ten, 4, 6))
	r.Take(ten, 4)
	got, ok := r.Best(ten)
	wantNothing(t, "Best behind a Take of the last one", got, ok)
	wantBest(t, r, mark(tenOne, 3, 0))
	wantBest(t, r, mark(whole, 3, 0))
}

// P9.3: each thing that tells ahead of the domain tells which of two is Best, whichever domain comes first; then the domain.
func TestBestByEach(t *testing.T) {
	for _, change := range changes[:3] {
		for _, domains := range [][2]int{{1, 2}, {2, 1}} {
			a, b := change(base, true), change(base, false)
			a.Domain, b.Domain = domains[0], domains[1]
			orders([]api.Route{a, b}, func(order []api.Route) {
				r := New(2)
				r.Put(order[0])
				r.Put(order[1])
				wantBest(t, r, a)
				wantFound(t, r, ten.Addr, a)
			})
		}
	}
	r := New(2)
	r.Put(api.Route{Prefix: ten, Domain: 2})
	r.Put(api.Route{Prefix: ten, Domain: 1, Next: 9})
	wantBest(t, r, api.Route{Prefix: ten, Domain: 1, Next: 9})
}

// P9.3: Find with no route, with one that has the address and one that has not, and of prefixes that cover each other the longest one, though its route be worse.
func TestFind(t *testing.T) {
	r := New(9)
	got, ok := r.Find(0)
	wantNothing(t, "Find without a route", got, ok)
	far := api.Route{Prefix: tenOneTo, Domain: 15, Distance: 255, Metric: math.MaxUint32, Next: 32, Tag: 0xffff}
	r.Put(far)
	wantFound(t, r, 0x0a010203, far)
	for _, addr := range []uint32{0x0a010202, 0x0a010204, 0, 0x8a010203, math.MaxUint32} {
		got, ok = r.Find(addr)
		wantNothing(t, "Find of an address that none has", got, ok)
	}
	r.Put(mark(ten, 2, 7))
	r.Put(mark(ten, 1, 8))
	r.Put(mark(tenOne, 1, 9))
	r.Put(mark(tenOne, 0, 9))
	wantFound(t, r, 0x0a010203, far)
	wantFound(t, r, 0x0a010204, mark(tenOne, 0, 9))
	wantFound(t, r, 0x0a020000, mark(ten, 2, 7))
	wantFound(t, r, 0x0affffff, mark(ten, 2, 7))
	got, ok = r.Find(0x0b000000)
	wantNothing(t, "Find beside them", got, ok)
	r.Take(tenOneTo, 15)
	wantFound(t, r, 0x0a010203, mark(tenOne, 0, 9))
	r.Take(tenOne, 0)
	wantFound(t, r, 0x0a010203, mark(tenOne, 1, 9))
	r.Take(tenOne, 1)
	wantFound(t, r, 0x0a010203, mark(ten, 2, 7))
	r.Take(ten, 2)
	wantFound(t, r, 0x0a010203, mark(ten, 1, 8))
	r.Put(mark(whole, 0, 0))
	wantFound(t, r, 0x0a010203, mark(ten, 1, 8))
	r.Take(ten, 1)
	wantFound(t, r, 0x0a010203, mark(whole, 0, 0))
	wantFound(t, r, math.MaxUint32, mark(whole, 0, 0))
	r.Take(whole, 0)
	got, ok = r.Find(0x0a010203)
	wantNothing(t, "Find behind a Take of the last one", got, ok)
}

// P9.2, P9.3: a route that had no room, or may not be, is not found.
func TestFindRefused(t *testing.T) {
	r := New(1)
	r.Put(mark(ten, 0, 1))
	r.Put(mark(tenOne, 0, 2))
	r.Put(mark(ten, 1, 0))
	r.Put(api.Route{Prefix: tenOneTo, Distance: -1})
	wantFound(t, r, 0x0a010203, mark(ten, 0, 1))
	wantBest(t, r, mark(ten, 0, 1))
	for _, p := range []api.Prefix{tenOne, tenOneTo} {
		got, ok := r.Best(p)
		wantNothing(t, "Best of one that was refused", got, ok)
	}
}

// P9.1 to P9.4: many calls in any order, all held against the list; what comes and goes leaves nothing behind.
func TestManyCalls(t *testing.T) {
	c := chance(6)
	for round := range 80 {
		b := newBoth(t, c.next(round+2)-1)
		prefixes := nearPrefixes(&c, 1+round/2)
		for range 150 {
			x := c.route(some(&c, prefixes))
			switch c.next(5) {
			case 0, 1, 2:
				b.put(x)
			case 3:
				b.take(x.Prefix, x.Domain)
			default:
				wantErrno(t, "Put of one that may not be", b.put(some(&c, wrongRoutes())), api.ErrArg)
			}
			b.checkBest(x.Prefix)
			b.checkFind(0x0a010203 ^ 1<<c.next(32))
		}
		for _, x := range b.rib.All() {
			b.take(x.Prefix, x.Domain)
		}
		if len(b.rib.routes) != 0 || b.rib.domains.Len() != 0 {
			t.Fatalf("all were taken, but %d routes and %d prefixes are kept", len(b.rib.routes), b.rib.domains.Len())
		}
	}
}

// R5: one table knows nothing of another one; to ask changes nothing.
func TestApart(t *testing.T) {
	x, y := New(1), New(2)
	x.Put(mark(ten, 1, 1))
	y.Put(mark(ten, 1, 2))
	y.Put(mark(tenOne, 1, 3))
	x.Put(at(whole, 0))
	for range 3 {
		wantAll(t, x, mark(ten, 1, 1))
		wantBest(t, x, mark(ten, 1, 1))
		wantFound(t, x, 0x0a010203, mark(ten, 1, 1))
		wantFound(t, y, 0x0a010203, mark(tenOne, 1, 3))
		wantRefused(t, x, 1)
		wantRefused(t, y, 0)
	}
	y.Take(ten, 1)
	wantAll(t, x, mark(ten, 1, 1))
}

// The chapter's example, and the whole document's fourth one as a table.
func TestExamples(t *testing.T) {
	first := api.Route{Prefix: ten, Domain: 1, Distance: 120, Metric: 5}
	second := api.Route{Prefix: ten, Domain: 0, Distance: 1, Metric: 1, Tag: 2}
	wantBetter(t, first, second)
	orders([]api.Route{first, second}, func(order []api.Route) {
		r := New(2)
		for _, x := range order {
			wantErrno(t, "Put", r.Put(x), api.OK)
		}
		wantBest(t, r, first)
		wantFound(t, r, 0x0a010203, first)
		wantAll(t, r, second, first)
	})
	own := api.Route{Prefix: ten, Domain: 0, Metric: 1}
	brought := api.Route{Prefix: ten, Domain: 1, Metric: 5, Tag: 1}
	r := New(64)
	r.Put(brought)
	r.Put(own)
	wantBest(t, r, own)
	wantAll(t, r, own, brought)
}

// P1, R1: no call panics, at any argument, and all keep to their promises; the steps are eight bytes each.
func FuzzCalls(f *testing.F) {
	f.Add(4, []byte{0, 8, 10, 0, 1, 120, 5, 3, 1, 8, 10, 0, 1, 0, 0, 0}, uint32(0x0a010203), 8, 0, 0, 0, 0)
	f.Add(0, []byte{0, 0, 0, 0, 0, 0, 0, 0}, uint32(0), 0, 16, 256, 1<<32, 33)
	f.Add(math.MinInt, []byte{2, 32, 255, 255, 15, 255, 255, 255}, uint32(math.MaxUint32), math.MinInt, math.MinInt, math.MinInt, math.MinInt, math.MinInt)
	f.Add(math.MaxInt, []byte{0, 16, 10, 1, 2, 3, 0, 0}, uint32(1), math.MaxInt, math.MaxInt, math.MaxInt, math.MaxInt, math.MaxInt)
	f.Fuzz(func(t *testing.T, most int, steps []byte, addr uint32, bits, domain, distance, metric, next int) {
		b := newBoth(t, most)
		for count := 0; len(steps) >= 8 && count < 60; count++ {
			s := steps[:8]
			steps = steps[8:]
			p := api.Prefix{Addr: uint32(s[2])<<24 | uint32(s[3])<<16, Len: int(s[1])}
			if s[0]&2 == 0 {
				p, _ = prefix.Make(p.Addr, p.Len%33)
			}
			if s[0]&1 == 0 {
				b.put(api.Route{Prefix: p, Domain: int(s[4]) - 3, Distance: int(s[5]), Metric: int(s[6]), Next: int(s[0] >> 2), Tag: uint16(s[7]) << (s[0] & 8)})
			} else {
				b.take(p, int(s[4])-3)
			}
			b.checkBest(p)
		}
		x := api.Route{Prefix: api.Prefix{Addr: addr, Len: bits}, Domain: domain, Distance: distance, Metric: metric, Next: next, Tag: uint16(addr)}
		b.put(x)
		b.checkBest(x.Prefix)
		b.checkFind(addr)
		for _, y := range b.rib.All() {
			if got, want := Better(x, y), slowBetter(x, y); got != want {
				t.Fatalf("Better(%v, %v) = %v, want %v", x, y, got, want)
			}
		}
		b.take(x.Prefix, domain)
		b.checkBest(x.Prefix)
	})
}
