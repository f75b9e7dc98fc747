package filter

import (
	"math"
	"slices"
	"strconv"
	"testing"

	"octroi/api"
)

// Some prefixes, those of 10.x each within the one ahead, but for tenTwo, which is beside tenOne.
var (
	whole    = api.Prefix{}
	ten      = api.Prefix{Addr: 0x0a000000, Len: 8}
	tenOne   = api.Prefix{Addr: 0x0a010000, Len: 16}
	tenTwo   = api.Prefix{Addr: 0x0a020000, Len: 16}
	tenOneTo = api.Prefix{Addr: 0x0a010203, Len: 32}
	eleven   = api.Prefix{Addr: 0x0b000000, Len: 8}
	nought   = api.Prefix{Addr: 0, Len: 32}
	last     = api.Prefix{Addr: math.MaxUint32, Len: 32}
)

// goodPrefixes are prefixes that may be.
var goodPrefixes = []api.Prefix{whole, ten, tenOne, tenTwo, tenOneTo, eleven, nought, last, {Len: 1}, {Addr: 1 << 31, Len: 1}, {Addr: math.MaxUint32 - 1, Len: 31}}

// wrongPrefixes are prefixes that may not be: by their Len, and by bits behind it.
var wrongPrefixes = []api.Prefix{
	{Addr: 0, Len: -1},
	{Addr: 0, Len: 33},
	{Addr: 0, Len: math.MinInt},
	{Addr: 0, Len: math.MaxInt},
	{Addr: 0x0a000000, Len: -1},
	{Addr: 0x0a000000, Len: 33},
	{Addr: 0x0a000000, Len: 1<<32 + 8},
	{Addr: 0x0a000000, Len: -248},
	{Addr: 0x0a000001, Len: 8},
	{Addr: 0x0a800000, Len: 8},
	{Addr: 1, Len: 0},
	{Addr: 0x80000000, Len: 0},
	{Addr: 1, Len: 31},
	{Addr: math.MaxUint32, Len: 31},
}

// tagsOfAll are tags of no domain, of one, of some and of all.
var tagsOfAll = []uint16{0, 1, 2, 3, 4, 10, 0x00ff, 0xff00, 0x5555, 0xaaaa, 0x7fff, 0x8000, 0x8001, 0xfffe, 0xffff}

// size is how many addresses a prefix of a Len from 0 to 32 has, by a product.
func size(bits int) int {
	n := 1
	for range 32 - bits {
		n *= 2
	}
	return n
}

// slowMayPrefix tells whether a prefix may be: what a multiple of its size begins.
func slowMayPrefix(p api.Prefix) bool {
	return p.Len >= 0 && p.Len <= 32 && int(p.Addr)%size(p.Len) == 0
}

// slowCovers tells whether all addresses of one lie within another one, by the first and the last ones.
func slowCovers(p, q api.Prefix) bool {
	if !slowMayPrefix(p) || !slowMayPrefix(q) {
		return false
	}
	return q.Addr >= p.Addr && int(q.Addr)+size(q.Len) <= int(p.Addr)+size(p.Len)
}

// slowHas tells whether a tag has a domain, by a division.
func slowHas(tag uint16, domain int) bool {
	n := int(tag)
	for range domain {
		n /= 2
	}
	return n%2 == 1
}

// slowFits is the chapter's FITS, domain by domain.
func slowFits(r api.Rule, p api.Prefix, tag uint16) bool {
	if !slowCovers(r.Prefix, p) || p.Len < r.Ge || p.Len > r.Le {
		return false
	}
	for domain := range 16 {
		has := slowHas(tag, domain)
		if slowHas(r.Has, domain) && !has || slowHas(r.Not, domain) && has {
			return false
		}
	}
	return true
}

// slowPermits is P13.2 from the end: a rule that fits takes the place of those behind it.
func slowPermits(l []api.Rule, p api.Prefix, tag uint16) (bool, int) {
	permit, place := false, -1
	for i := len(l) - 1; i >= 0; i-- {
		if slowFits(l[i], p, tag) {
			permit, place = l[i].Permit, i
		}
	}
	return permit, place
}

// slowMay is P13.1: how many of the rules may be is held against how many there are.
func slowMay(l []api.Rule) bool {
	count := 0
	for _, r := range l {
		if slowMayPrefix(r.Prefix) && r.Prefix.Len <= r.Ge && r.Ge <= r.Le && r.Le <= 32 {
			count++
		}
	}
	return count == len(l) && count <= 32
}

// rule is one of a prefix that lets all within it through, whatever the tag.
func rule(p api.Prefix) api.Rule {
	return api.Rule{Permit: true, Prefix: p, Ge: p.Len, Le: 32}
}

// from is one whose lengths have other bounds, deny one that lets nothing through, tagged one that asks for a tag.
func from(p api.Prefix, ge, le int) api.Rule {
	return api.Rule{Permit: true, Prefix: p, Ge: ge, Le: le}
}

func deny(r api.Rule) api.Rule {
	r.Permit = false
	return r
}

func tagged(r api.Rule, has, not uint16) api.Rule {
	r.Has, r.Not = has, not
	return r
}

// wrongRules are rules that may not be: each by one thing alone, but where the least or the greatest number brings two.
func wrongRules() []api.Rule {
	out := []api.Rule{
		from(ten, 7, 32), from(ten, 0, 32), from(ten, -1, 32), from(whole, -1, 32), from(tenOneTo, 31, 32),
		from(ten, 25, 24), from(ten, 9, 8), from(ten, 32, 8), from(whole, 1, 0), from(whole, 0, -1), from(tenOneTo, 32, 31),
		from(ten, 8, 33), from(whole, 0, 33), from(tenOneTo, 32, 33), from(ten, 33, 33), from(whole, 33, 40), from(ten, 33, 32),
		from(ten, math.MinInt, 24), from(ten, math.MinInt, math.MinInt), from(ten, math.MinInt, math.MaxInt),
		from(ten, math.MaxInt, 24), from(ten, math.MaxInt, math.MaxInt), from(ten, math.MaxInt, math.MinInt),
		from(ten, 8, math.MinInt), from(ten, 8, math.MaxInt), from(whole, 0, math.MaxInt), from(whole, 0, math.MinInt), from(whole, math.MinInt, 32),
		from(ten, 1<<32+8, 24), from(ten, 8, 1<<32+24), from(ten, -248, 24), from(ten, 8, -232),
	}
	for _, p := range wrongPrefixes {
		// Bounds that may be, if the Len were one.
		out = append(out, from(p, min(max(p.Len, 0), 32), 32), from(p, p.Len, 32), from(p, p.Len, p.Len))
	}
	return out
}

// rules are so many that may be, each of its own prefix.
func rules(count int) []api.Rule {
	var out []api.Rule
	for i := range count {
		p := api.Prefix{Addr: 10<<24 + uint32(i)<<8, Len: 24}
		out = append(out, tagged(from(p, 24, 24+i%9), uint16(i), uint16(i)<<8))
	}
	return out
}

// with is a list with one more at a place.
func with(l []api.Rule, place int, r api.Rule) []api.Rule {
	return slices.Insert(slices.Clone(l), place, r)
}

// chance is numbers that follow no short rule, the same ones each time.
type chance uint64

func (c *chance) next(below int) int {
	*c = *c*6364136223846793005 + 1442695040888963407
	return int(uint64(*c)>>33) % below
}

// some is one of a list.
func some[T any](c *chance, l []T) T {
	return l[c.next(len(l))]
}

// near is a prefix of few different bits, so that several cover each other; seldom one that may not be.
func (c *chance) near() api.Prefix {
	if c.next(20) == 0 {
		return some(c, wrongPrefixes)
	}
	bits := some(c, []int{0, 1, 7, 8, 9, 16, 17, 24, 31, 32})
	addr := 10<<24 + c.next(2)<<31 + c.next(2)<<24 + c.next(2)<<23 + c.next(2)<<16 + c.next(2)<<15 + c.next(4)
	return api.Prefix{Addr: uint32(addr - addr%size(bits)), Len: bits}
}

// tag is one of few domains, so that tags often have all of another one, or none.
func (c *chance) tag() uint16 {
	return uint16(c.next(2) + c.next(2)*2 + c.next(2)*0x80 + c.next(2)*0x8000)
}

// rule is one that often may be, and as often fits.
func (c *chance) rule() api.Rule {
	p := c.near()
	r := api.Rule{Permit: c.next(2) == 1, Prefix: p, Ge: p.Len, Le: 32, Has: c.tag() & c.tag(), Not: c.tag() & c.tag()}
	if c.next(2) == 0 {
		r.Ge, r.Le = c.next(34), c.next(34)
	}
	return r
}

func (c *chance) filter(count int) []api.Rule {
	var out []api.Rule
	for range count {
		out = append(out, c.rule())
	}
	return out
}

// show is a list as a text for what went wrong.
func show(l []api.Rule) string {
	text := "["
	for _, r := range l {
		text += " " + strconv.FormatBool(r.Permit) + " " + strconv.FormatUint(uint64(r.Prefix.Addr), 16) + "/" + strconv.Itoa(r.Prefix.Len)
		text += " " + strconv.Itoa(r.Ge) + "-" + strconv.Itoa(r.Le) + " " + strconv.FormatUint(uint64(r.Has), 16) + " !" + strconv.FormatUint(uint64(r.Not), 16) + ";"
	}
	return text + " ]"
}

func wantMay(t *testing.T, l []api.Rule, want bool) {
	t.Helper()
	was := slices.Clone(l)
	if got := May(l); got != want {
		t.Errorf("May(%s) = %v, want %v", show(l), got, want)
	}
	if !slices.Equal(l, was) {
		t.Errorf("May(%s) made it %s", show(was), show(l))
	}
}

func wantPermits(t *testing.T, l []api.Rule, p api.Prefix, tag uint16, permit bool, place int) {
	t.Helper()
	was := slices.Clone(l)
	if got, at := Permits(l, p, tag); got != permit || at != place {
		t.Errorf("Permits(%s, %x/%d, %04x) = %v, %d, want %v, %d", show(l), p.Addr, p.Len, tag, got, at, permit, place)
	}
	if !slices.Equal(l, was) {
		t.Errorf("Permits(%s) made it %s", show(was), show(l))
	}
}

// wantFits holds one rule alone, as one that permits and as one that does not.
func wantFits(t *testing.T, r api.Rule, p api.Prefix, tag uint16, want bool) {
	t.Helper()
	for _, permit := range []bool{true, false} {
		r.Permit = permit
		if want {
			wantPermits(t, []api.Rule{r}, p, tag, permit, 0)
		} else {
			wantPermits(t, []api.Rule{r}, p, tag, false, -1)
		}
	}
}

// P13.1: no rule, and so many as may be, and one more.
func TestMayCount(t *testing.T) {
	wantMay(t, nil, true)
	wantMay(t, []api.Rule{}, true)
	for count := range 70 {
		wantMay(t, rules(count), count <= 32)
		wantMay(t, make([]api.Rule, count), count <= 32)
	}
	wantMay(t, rules(1000), false)
	wantMay(t, make([]api.Rule, 1<<16), false)
}

// P13.1: a list is as long as it is, however much more there is behind it.
func TestMayBehind(t *testing.T) {
	l := append(rules(31), from(ten, 7, 32), from(ten, 7, 32))
	wantMay(t, l[:31], true)
	wantMay(t, l[:32], false)
	wantMay(t, slices.Grow(rules(32), 100), true)
}

// P13.1: bounds that may be, at their edges, by hand.
func TestMayOne(t *testing.T) {
	for _, r := range []api.Rule{
		from(whole, 0, 0), from(whole, 0, 32), from(whole, 32, 32), from(whole, 1, 1), from(whole, 16, 24),
		from(ten, 8, 8), from(ten, 8, 9), from(ten, 9, 9), from(ten, 8, 24), from(ten, 24, 24), from(ten, 8, 32), from(ten, 32, 32), from(ten, 31, 32),
		from(tenOneTo, 32, 32), from(nought, 32, 32), from(last, 32, 32),
	} {
		wantMay(t, []api.Rule{r}, true)
		wantMay(t, []api.Rule{deny(r)}, true)
	}
	for _, r := range wrongRules() {
		wantMay(t, []api.Rule{r}, false)
		wantMay(t, []api.Rule{deny(r)}, false)
	}
}

// P13.1: of the tags nothing is asked, of what the rule answers neither.
func TestMayTags(t *testing.T) {
	for _, has := range tagsOfAll {
		for _, not := range tagsOfAll {
			wantMay(t, []api.Rule{tagged(rule(ten), has, not), deny(tagged(rule(whole), not, has))}, true)
			wantMay(t, []api.Rule{tagged(from(ten, 7, 32), has, not)}, false)
		}
	}
}

// P13.1: every Ge and every Le of every Len.
func TestMayBounds(t *testing.T) {
	for bits := -2; bits <= 34; bits++ {
		for ge := -2; ge <= 34; ge++ {
			for le := -2; le <= 34; le++ {
				l := []api.Rule{from(api.Prefix{Len: bits}, ge, le)}
				wantMay(t, l, 0 <= bits && bits <= ge && ge <= le && le <= 32)
			}
		}
	}
}

// P13.1: one that may not be, as the first one, as the last one and between, is enough; so are two.
func TestMayAmong(t *testing.T) {
	for _, wrong := range wrongRules() {
		for _, count := range []int{1, 2, 5, 31} {
			for place := range count + 1 {
				wantMay(t, with(rules(count), place, wrong), false)
			}
		}
		wantMay(t, with(with(rules(5), 0, wrong), 6, wrong), false)
		wantMay(t, with(rules(32), 16, wrong), false)
	}
}

// P13.1: many lists, by another way.
func TestMayMany(t *testing.T) {
	c := chance(1)
	may := 0
	for range 20000 {
		l := c.filter(c.next(4))
		for i, r := range l {
			if c.next(3) > 0 && slowMayPrefix(r.Prefix) {
				l[i].Ge = r.Prefix.Len + c.next(33-r.Prefix.Len)
				l[i].Le = l[i].Ge + c.next(33-l[i].Ge)
			}
		}
		want := slowMay(l)
		wantMay(t, l, want)
		if want && len(l) > 0 {
			may++
		}
	}
	if may < 2000 {
		t.Errorf("only %d of the lists may be", may)
	}
}

// P13.2, P13.3: a filter without rules lets nothing through.
func TestNoRule(t *testing.T) {
	for _, p := range slices.Concat(goodPrefixes, wrongPrefixes) {
		for _, tag := range tagsOfAll {
			wantPermits(t, nil, p, tag, false, -1)
			wantPermits(t, []api.Rule{}, p, tag, false, -1)
			wantPermits(t, rules(3)[:0], p, tag, false, -1)
		}
	}
}

// P13.2: one rule; what fits none is told apart from what the first rule denies.
func TestOneRule(t *testing.T) {
	wantPermits(t, []api.Rule{rule(ten)}, tenOne, 0, true, 0)
	wantPermits(t, []api.Rule{deny(rule(ten))}, tenOne, 0, false, 0)
	wantPermits(t, []api.Rule{rule(ten)}, eleven, 0, false, -1)
	wantPermits(t, []api.Rule{deny(rule(ten))}, eleven, 0, false, -1)
}

// P13.2: the rule's own prefix, those within it, those that cover it, and those beside it.
func TestPrefix(t *testing.T) {
	for _, c := range []struct {
		rule, p api.Prefix
		want    bool
	}{
		{ten, ten, true},
		{ten, tenOne, true},
		{ten, tenOneTo, true},
		{ten, api.Prefix{Addr: 0x0affffff, Len: 32}, true},
		{ten, api.Prefix{Addr: 0x0a000000, Len: 9}, true},
		{ten, api.Prefix{Addr: 0x0a800000, Len: 9}, true},
		{ten, api.Prefix{Addr: 0x0a000000, Len: 7}, false},
		{ten, api.Prefix{Addr: 0x08000000, Len: 6}, false},
		{ten, whole, false},
		{ten, eleven, false},
		{ten, api.Prefix{Addr: 0x09000000, Len: 8}, false},
		{ten, api.Prefix{Addr: 0x8a000000, Len: 8}, false},
		{ten, api.Prefix{Addr: 0x0b000000, Len: 32}, false},
		{ten, api.Prefix{Addr: 0x09ffffff, Len: 32}, false},
		{tenOne, tenOne, true},
		{tenOne, tenTwo, false},
		{tenOne, ten, false},
		{tenOne, api.Prefix{Addr: 0x0a000000, Len: 16}, false},
		{tenOneTo, tenOneTo, true},
		{tenOneTo, api.Prefix{Addr: 0x0a010202, Len: 32}, false},
		{tenOneTo, api.Prefix{Addr: 0x0a010202, Len: 31}, false},
		{whole, whole, true},
		{whole, ten, true},
		{whole, nought, true},
		{whole, last, true},
		{nought, nought, true},
		{nought, whole, false},
		{nought, last, false},
		{last, last, true},
		{last, nought, false},
	} {
		wantFits(t, from(c.rule, 0, 32), c.p, 0, c.want)
		wantFits(t, from(c.rule, c.rule.Len, 32), c.p, 0, c.want)
		wantFits(t, from(c.rule, math.MinInt, math.MaxInt), c.p, 0xffff, c.want)
	}
}

// P13.2: lengths that are Ge and Le, and one less and one more.
func TestLength(t *testing.T) {
	for bits := 8; bits <= 32; bits++ {
		p := api.Prefix{Addr: 0x0a000000, Len: bits}
		wantFits(t, from(ten, bits, bits), p, 0, true)
		wantFits(t, from(ten, bits, 32), p, 0, true)
		wantFits(t, from(ten, 8, bits), p, 0, true)
		wantFits(t, from(ten, bits-1, bits+1), p, 0, true)
		wantFits(t, from(ten, bits+1, 33), p, 0, false)
		wantFits(t, from(ten, 0, bits-1), p, 0, false)
		wantFits(t, from(ten, bits+1, bits), p, 0, false)
		wantFits(t, from(ten, bits, bits-1), p, 0, false)
		wantFits(t, from(ten, math.MaxInt, math.MinInt), p, 0, false)
		wantFits(t, from(ten, math.MinInt, math.MinInt), p, 0, false)
		wantFits(t, from(ten, math.MaxInt, math.MaxInt), p, 0, false)
	}
}

// P13.2: every Ge and every Le for every Len.
func TestLengths(t *testing.T) {
	for bits := range 33 {
		for ge := -1; ge <= 34; ge++ {
			for le := -1; le <= 34; le++ {
				wantFits(t, from(whole, ge, le), api.Prefix{Len: bits}, 0, ge <= bits && bits <= le)
			}
		}
	}
}

// P13.2: what a tag must have and what it must not, by hand.
func TestTag(t *testing.T) {
	for _, c := range []struct {
		has, not, tag uint16
		want          bool
	}{
		// of nothing
		{0, 0, 0, true},
		{0, 0, 1, true},
		{0, 0, 0xffff, true},
		// all of Has
		{1, 0, 1, true},
		{1, 0, 0xffff, true},
		{10, 0, 10, true},
		{10, 0, 11, true},
		{0x8001, 0, 0x8001, true},
		{0x8001, 0, 0x80ff, true},
		{0xffff, 0, 0xffff, true},
		// one of Has is missing, or all are
		{1, 0, 0, false},
		{1, 0, 2, false},
		{1, 0, 0xfffe, false},
		{10, 0, 2, false},
		{10, 0, 8, false},
		{10, 0, 5, false},
		{0x8001, 0, 0x8000, false},
		{0x8001, 0, 1, false},
		{0xffff, 0, 0x7fff, false},
		{0xffff, 0, 0xfffe, false},
		{0xffff, 0, 0, false},
		// none of Not
		{0, 1, 0, true},
		{0, 1, 0xfffe, true},
		{0, 10, 5, true},
		{0, 0x8001, 0x7ffe, true},
		{0, 0xffff, 0, true},
		// one of Not, or all
		{0, 1, 1, false},
		{0, 1, 0xffff, false},
		{0, 10, 2, false},
		{0, 10, 8, false},
		{0, 10, 10, false},
		{0, 10, 13, false},
		{0, 0x8001, 0x8000, false},
		{0, 0x8001, 1, false},
		{0, 0xffff, 1, false},
		{0, 0xffff, 0x8000, false},
		{0, 0xffff, 0xffff, false},
		// of both
		{1, 2, 1, true},
		{1, 2, 5, true},
		{1, 2, 3, false},
		{1, 2, 2, false},
		{1, 2, 0, false},
		{0x00ff, 0xff00, 0x00ff, true},
		{0x00ff, 0xff00, 0x01ff, false},
		{0x00ff, 0xff00, 0x00fe, false},
		// a domain in both
		{1, 1, 0, false},
		{1, 1, 1, false},
		{1, 1, 0xffff, false},
		{3, 1, 3, false},
		{3, 1, 2, false},
		{1, 3, 1, false},
		{0xffff, 0xffff, 0, false},
		{0xffff, 0xffff, 0xffff, false},
	} {
		wantFits(t, tagged(rule(ten), c.has, c.not), tenOne, c.tag, c.want)
		wantFits(t, tagged(rule(ten), c.has, c.not), eleven, c.tag, false)
	}
}

// P13.2: each domain alone, and every tag.
func TestTags(t *testing.T) {
	bit := uint16(1)
	for domain := range 16 {
		for n := range 1 << 16 {
			tag := uint16(n)
			has := slowHas(tag, domain)
			if got, _ := Permits([]api.Rule{tagged(rule(ten), bit, 0)}, ten, tag); got != has {
				t.Fatalf("Has %04x: %04x is %v", bit, tag, got)
			}
			if got, _ := Permits([]api.Rule{tagged(rule(ten), 0, bit)}, ten, tag); got == has {
				t.Fatalf("Not %04x: %04x is %v", bit, tag, got)
			}
			if got, at := Permits([]api.Rule{tagged(rule(ten), bit, bit)}, ten, tag); got || at != -1 {
				t.Fatalf("Has and Not %04x: %04x is %v, %d", bit, tag, got, at)
			}
		}
		bit *= 2
	}
}

// P13.2: of several that fit, the first one tells, whatever the others answer.
func TestFirst(t *testing.T) {
	no, yes, other := deny(rule(ten)), rule(ten), rule(eleven)
	for _, c := range []struct {
		l      []api.Rule
		permit bool
		place  int
	}{
		{[]api.Rule{yes, no}, true, 0},
		{[]api.Rule{no, yes}, false, 0},
		{[]api.Rule{yes, yes, yes}, true, 0},
		{[]api.Rule{no, no, no}, false, 0},
		{[]api.Rule{no, yes, no, yes}, false, 0},
		{[]api.Rule{other, yes, no}, true, 1},
		{[]api.Rule{other, no, yes}, false, 1},
		{[]api.Rule{deny(other), other, yes}, true, 2},
		{[]api.Rule{other, deny(other), no}, false, 2},
		{[]api.Rule{other, no, other, yes}, false, 1},
		{[]api.Rule{other, deny(other), other}, false, -1},
		// of rules that do not fit by each thing
		{[]api.Rule{rule(tenTwo), from(ten, 17, 32), from(ten, 8, 15), tagged(yes, 4, 0), tagged(yes, 0, 1), tagged(yes, 1, 1), no, yes}, false, 6},
		{[]api.Rule{deny(rule(tenTwo)), deny(from(ten, 17, 32)), deny(from(ten, 8, 15)), tagged(no, 4, 0), tagged(no, 0, 1), tagged(no, 1, 1), yes, no}, true, 6},
		// a shorter prefix ahead of a longer one: the place counts, not the Len
		{[]api.Rule{rule(whole), deny(rule(tenOne))}, true, 0},
		{[]api.Rule{deny(rule(whole)), rule(tenOne)}, false, 0},
		{[]api.Rule{rule(tenOne), deny(rule(whole))}, true, 0},
	} {
		wantPermits(t, c.l, tenOne, 3, c.permit, c.place)
	}
}

// P13.2: the place of a rule, from 0 on, also behind the 32 that may be.
func TestPlace(t *testing.T) {
	for _, count := range []int{1, 2, 31, 32, 33, 100} {
		for place := range count {
			l := slices.Repeat([]api.Rule{rule(eleven)}, count)
			wantPermits(t, l, tenOne, 0, false, -1)
			l[place] = rule(ten)
			wantPermits(t, l, tenOne, 0, true, place)
			l[place] = deny(rule(ten))
			wantPermits(t, l, tenOne, 0, false, place)
		}
	}
}

// P13.2: prefixes that may not be are covered by none, and rules of such a prefix cover none.
func TestWrongPrefix(t *testing.T) {
	for _, wrong := range wrongPrefixes {
		for _, p := range goodPrefixes {
			wantFits(t, from(p, math.MinInt, math.MaxInt), wrong, 0, false)
			wantFits(t, from(wrong, math.MinInt, math.MaxInt), p, 0, false)
			l := []api.Rule{from(wrong, math.MinInt, math.MaxInt), from(whole, 0, 32)}
			wantPermits(t, l, p, 0, true, 1)
			wantPermits(t, l, wrong, 0, false, -1)
		}
		wantFits(t, from(wrong, wrong.Len, wrong.Len), wrong, 0, false)
		wantFits(t, from(wrong, math.MinInt, math.MaxInt), wrong, 0xffff, false)
	}
}

// P13.2: a rule that may not be by its bounds alone fits as the words say.
func TestWrongBounds(t *testing.T) {
	wantFits(t, from(ten, 0, 32), ten, 0, true)
	wantFits(t, from(ten, -1, 40), tenOne, 0, true)
	wantFits(t, from(ten, math.MinInt, math.MaxInt), tenOneTo, 0, true)
	wantFits(t, from(ten, 7, 7), ten, 0, false)
	wantFits(t, from(ten, 24, 8), tenOne, 0, false)
	for _, r := range wrongRules() {
		for _, p := range slices.Concat(goodPrefixes, wrongPrefixes) {
			for _, tag := range []uint16{0, 0xffff} {
				permit, place := slowPermits([]api.Rule{r}, p, tag)
				wantPermits(t, []api.Rule{r}, p, tag, permit, place)
			}
		}
	}
}

// P13.2: many filters, by another way.
func TestPermitsMany(t *testing.T) {
	c := chance(2)
	counts := map[bool]int{}
	none := 0
	for range 40000 {
		l := c.filter(c.next(8))
		p, tag := c.near(), c.tag()
		permit, place := slowPermits(l, p, tag)
		wantPermits(t, l, p, tag, permit, place)
		if place > 0 {
			counts[permit]++
		} else if place < 0 {
			none++
		}
	}
	if counts[true] < 1000 || counts[false] < 1000 || none < 1000 {
		t.Errorf("behind the first rule %d permit and %d do not, and %d fit none", counts[true], counts[false], none)
	}
}

// P13.3: what stands behind the rule that fits changes nothing.
func TestBehind(t *testing.T) {
	c := chance(3)
	fits := 0
	for range 10000 {
		l := c.filter(1 + c.next(6))
		p, tag := c.near(), c.tag()
		permit, place := Permits(l, p, tag)
		if place < 0 {
			continue
		}
		fits++
		ahead := l[:place+1]
		wantPermits(t, ahead, p, tag, permit, place)
		for _, behind := range [][]api.Rule{c.filter(1), c.filter(5), wrongRules(), {rule(whole)}, {deny(rule(whole))}, {deny(l[place])}, rules(32)} {
			wantPermits(t, slices.Concat(ahead, behind), p, tag, permit, place)
		}
		wantPermits(t, ahead[:place], p, tag, false, -1)
	}
	if fits < 500 {
		t.Errorf("only %d filters have a rule that fits", fits)
	}
}

// R3: the rules that are handed in stay as they were, also behind the list's end.
func TestRulesStay(t *testing.T) {
	whole32 := rules(32)
	was := slices.Clone(whole32)
	for count := range 33 {
		for _, r := range was {
			May(whole32[:count])
			Permits(whole32[:count], r.Prefix, r.Has)
		}
		if !slices.Equal(whole32, was) {
			t.Fatalf("%s became %s", show(was), show(whole32))
		}
	}
}

// R5: nothing hangs on what was asked before.
func TestAskedTwice(t *testing.T) {
	l := []api.Rule{deny(rule(tenTwo)), rule(ten)}
	for range 3 {
		wantPermits(t, l, tenOne, 0, true, 1)
		wantPermits(t, l, tenTwo, 0, false, 0)
		wantPermits(t, l, eleven, 0, false, -1)
		wantPermits(t, nil, tenOne, 0, false, -1)
		wantMay(t, l, true)
		wantMay(t, rules(33), false)
	}
	l[0].Permit = true
	wantPermits(t, l, tenTwo, 0, true, 0)
	l[0].Ge = 15
	wantMay(t, l, false)
}

// P1: a long list ends as a short one does.
func TestLong(t *testing.T) {
	l := slices.Repeat([]api.Rule{rule(eleven)}, 1<<18)
	if permit, at := Permits(l, tenOne, 0); permit || at != -1 {
		t.Errorf("Permits of a long list = %v, %d, want false, -1", permit, at)
	}
	l = append(l, rule(ten), deny(rule(ten)))
	if permit, at := Permits(l, tenOne, 0); !permit || at != 1<<18 {
		t.Errorf("Permits of a long list = %v, %d, want true, %d", permit, at, 1<<18)
	}
	if May(l) {
		t.Error("a long list may be")
	}
}

// The chapter's examples.
func TestExamples(t *testing.T) {
	l := []api.Rule{{Permit: true, Prefix: ten, Ge: 8, Le: 24, Not: 2}}
	wantMay(t, l, true)
	wantPermits(t, l, tenOne, 4, true, 0)
	wantPermits(t, l, tenOne, 2, false, -1)
}

// ruleOf is a rule of eight bytes, whose numbers lie about those that may be.
func ruleOf(b []byte) api.Rule {
	return api.Rule{
		Permit: b[0]%2 == 1,
		Prefix: api.Prefix{Addr: uint32(b[1])<<24 + uint32(b[0]/64), Len: int(b[2]%40) - 3},
		Ge:     int(b[3]%40) - 3,
		Le:     int(b[4]%40) - 3,
		Has:    uint16(b[5])<<8 + uint16(b[6]%4),
		Not:    uint16(b[7]),
	}
}

// P1, R1: no call panics, at any argument, and both keep to their promises; the rules are eight bytes each.
func FuzzCalls(f *testing.F) {
	f.Add([]byte{1, 10, 11, 11, 27, 0, 0, 2}, uint32(10<<24+1<<16), 16, uint16(4), 8, 24)
	f.Add([]byte{1, 10, 11, 11, 27, 0, 0, 2, 0, 10, 11, 11, 35, 0, 0, 0}, uint32(10<<24), 8, uint16(2), math.MinInt, math.MaxInt)
	f.Add([]byte{}, uint32(0), 0, uint16(0), 0, 32)
	f.Add([]byte{65, 0, 0, 0, 0, 255, 255, 255}, uint32(math.MaxUint32), 33, uint16(0xffff), 33, 33)
	f.Add(make([]byte, 8*33), uint32(1), math.MinInt, uint16(1), math.MinInt, math.MinInt)
	f.Add(make([]byte, 8*32), uint32(1<<31), math.MaxInt, uint16(0x8000), math.MaxInt, math.MaxInt)
	f.Fuzz(func(t *testing.T, b []byte, addr uint32, bits int, tag uint16, ge, le int) {
		var l []api.Rule
		for ; len(b) >= 8 && len(l) < 40; b = b[8:] {
			l = append(l, ruleOf(b))
		}
		p := api.Prefix{Addr: addr, Len: bits}
		own := api.Rule{Permit: tag%2 == 1, Prefix: p, Ge: ge, Le: le, Has: tag & 0x0f0f, Not: tag & 0x00f0}
		for _, l := range [][]api.Rule{l, with(l, 0, own), with(l, len(l), own), {own}, {own, rule(whole)}} {
			wantMay(t, l, slowMay(l))
			for _, q := range []api.Prefix{p, ten, {Addr: addr, Len: 32}, {Len: bits}} {
				for _, tag := range []uint16{tag, ^tag, 0, 0xffff} {
					permit, place := slowPermits(l, q, tag)
					wantPermits(t, l, q, tag, permit, place)
				}
			}
		}
	})
}
