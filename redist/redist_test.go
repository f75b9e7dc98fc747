package redist

import (
	"fmt"
	"math"
	"reflect"
	"slices"
	"testing"

	"octroi/api"
	"octroi/filter"
	"octroi/trans"
)

// top is 2^32 - 1, by its figures.
const top = 4294967295

var (
	ten    = api.Prefix{Addr: 0x0a000000, Len: 8}
	tenOne = api.Prefix{Addr: 0x0a010000, Len: 16}
	eleven = api.Prefix{Addr: 0x0b000000, Len: 8}
)

// numbers are those about the edges, and the least and the greatest ones.
var numbers = []int{math.MinInt, math.MinInt + 1, -top, -17, -16, -2, -1, 0, 1, 2, 7, 8, 14, 15, 16, 17, 31, 32, 63, 64, 65, 1 << 16, 1<<31 - 1, 1 << 31, top - 2, top - 1, top, top + 1, 1<<32 + 3, math.MaxInt - 1, math.MaxInt}

// allTags are tags of no domain, of one, of some and of all.
var allTags = []uint16{0, 1, 2, 3, 4, 8, 10, 0x00ff, 0xff00, 0x5555, 0xaaaa, 0x7fff, 0x8000, 0x8001, 0xfffe, 0xffff, 0xfffd, 0xfffb}

// isOne tells whether a number is a domain, by going through all of these.
func isOne(n int) bool {
	for domain := range 16 {
		if n == domain {
			return true
		}
	}
	return false
}

// setOf is a tag's domains, by divisions.
func setOf(tag uint16) map[int]bool {
	set := map[int]bool{}
	n := int(tag)
	for domain := range 16 {
		if n%2 == 1 {
			set[domain] = true
		}
		n /= 2
	}
	return set
}

// tagOf is the tag of a set, by products.
func tagOf(set map[int]bool) uint16 {
	n := 0
	for domain := 15; domain >= 0; domain-- {
		n *= 2
		if set[domain] {
			n++
		}
	}
	return uint16(n)
}

// slowMay is P15.1: how many of its parts may be, and how many domains its ends are.
func slowMay(x api.Redist) bool {
	may := 0
	for _, part := range []bool{isOne(x.From), isOne(x.To), filter.May(x.Filter), trans.May(x.Table), x.Seed > -1, x.Seed < top} {
		if part {
			may++
		}
	}
	ends := map[int]bool{x.From: true, x.To: true}
	return may == 6 && len(ends) == 2
}

// slowPass is P15.2: all that stands against a route is held against each other, and the least error but none is told.
func slowPass(x api.Redist, r api.Route) (api.Route, api.Errno) {
	var faults []api.Errno
	if !slowMay(x) || r.Domain != x.From {
		faults = append(faults, api.ErrArg)
	}
	set := setOf(r.Tag)
	if set[x.From] || set[x.To] {
		faults = append(faults, api.ErrLoop)
	}
	permit, _ := filter.Permits(x.Filter, r.Prefix, r.Tag)
	metric, told := trans.To(x.Table, x.Seed, r.Metric)
	if !permit || !told {
		faults = append(faults, api.ErrDeny)
	}
	if len(faults) > 0 {
		// The numbers of the three errors rise as the chapter names them.
		return api.Route{}, slices.Min(faults)
	}
	set[x.From] = true
	r.Domain, r.Metric, r.Next, r.Tag = x.To, metric, 0, tagOf(set)
	return r, api.OK
}

// slowAccept is P15.3.
func slowAccept(domain int, r api.Route) api.Errno {
	switch {
	case !isOne(domain):
		return api.ErrArg
	case setOf(r.Tag)[domain]:
		return api.ErrLoop
	}
	return api.OK
}

// slowDefault is P15.4.
func slowDefault(domain, metric int, known bool) (api.Route, bool) {
	if known && isOne(domain) && metric > 0 && metric < top {
		return api.Route{Prefix: api.Prefix{Addr: 0, Len: 0}, Domain: domain, Distance: 0, Metric: metric, Next: 0, Tag: 0}, true
	}
	return api.Route{}, false
}

// rules are so many that let all through; bands so many that may be.
func rules(count int) []api.Rule {
	var out []api.Rule
	for range count {
		out = append(out, api.Rule{Permit: true, Le: 32})
	}
	return out
}

func bands(count int) []api.Band {
	var out []api.Band
	for i := range count {
		out = append(out, api.Band{Upto: 10 * (i + 1), Metric: 1 + i})
	}
	return out
}

// oneTo is the rule of the chapter's example, threeRoute a route of its domain.
func oneTo() api.Redist {
	return api.Redist{From: 1, To: 2, Filter: rules(1), Seed: 5}
}

func threeRoute() api.Route {
	return api.Route{Prefix: ten, Domain: 1, Distance: 90, Metric: 7, Next: 3, Tag: 8}
}

// copied is a rule with lists of its own.
func copied(x api.Redist) api.Redist {
	x.Filter, x.Table = slices.Clone(x.Filter), slices.Clone(x.Table)
	return x
}

func wantMay(t *testing.T, x api.Redist, want bool) {
	t.Helper()
	was := copied(x)
	if got := May(x); got != want {
		t.Errorf("May(%+v) = %v, want %v", x, got, want)
	}
	if !reflect.DeepEqual(x, was) {
		t.Errorf("May(%+v) made it %+v", was, x)
	}
}

func wantPass(t *testing.T, x api.Redist, r, want api.Route, errno api.Errno) {
	t.Helper()
	was := copied(x)
	if got, e := Pass(x, r); got != want || e != errno {
		t.Errorf("Pass(%+v, %+v) = %+v, %d, want %+v, %d", x, r, got, e, want, errno)
	}
	if !reflect.DeepEqual(x, was) {
		t.Errorf("Pass(%+v, %+v) made it %+v", was, r, x)
	}
}

// wantError: the route does not pass, and with the error comes no route.
func wantError(t *testing.T, x api.Redist, r api.Route, errno api.Errno) {
	t.Helper()
	wantPass(t, x, r, api.Route{}, errno)
}

func wantAccept(t *testing.T, domain int, r api.Route, errno api.Errno) {
	t.Helper()
	if e := Accept(domain, r); e != errno {
		t.Errorf("Accept(%d, %+v) = %d, want %d", domain, r, e, errno)
	}
}

func wantDefault(t *testing.T, domain, metric int, known bool, want api.Route, is bool) {
	t.Helper()
	if got, told := Default(domain, metric, known); got != want || told != is {
		t.Errorf("Default(%d, %d, %v) = %+v, %v, want %+v, %v", domain, metric, known, got, told, want, is)
	}
}

// P15.1: From and To are domains, and no other numbers.
func TestMayDomains(t *testing.T) {
	for _, from := range numbers {
		for _, to := range numbers {
			x := oneTo()
			x.From, x.To = from, to
			wantMay(t, x, from >= 0 && from <= 15 && to >= 0 && to <= 15 && from != to)
		}
	}
	for domain := -20; domain < 40; domain++ {
		for _, x := range []api.Redist{{From: domain, To: 3}, {From: 3, To: domain}} {
			wantMay(t, x, domain >= 0 && domain <= 15 && domain != 3)
		}
	}
}

// P15.1: From and To are two domains: every two of them, and none with itself, whatever else the rule has.
func TestMayTwo(t *testing.T) {
	for from := range 16 {
		for to := range 16 {
			for _, x := range []api.Redist{{}, {Filter: rules(1), Seed: 5}, {Filter: rules(32), Table: bands(32), Seed: top - 1}} {
				x.From, x.To = from, to
				wantMay(t, x, from != to)
			}
		}
	}
	for _, n := range numbers {
		wantMay(t, api.Redist{From: n, To: n}, false)
		wantMay(t, api.Redist{From: n, To: n, Filter: rules(1), Table: bands(3), Seed: 5}, false)
	}
}

// P15.1: the seed is 0 to 2^32 - 2.
func TestMaySeed(t *testing.T) {
	for seed, want := range map[int]bool{math.MinInt: false, math.MinInt + 1: false, -top: false, -1: false, 0: true, 1: true, 16: true, 1 << 31: true, top - 2: true, top - 1: true, top: false, top + 1: false, top + 2: false, math.MaxInt: false} {
		x := oneTo()
		x.Seed = seed
		wantMay(t, x, want)
		wantMay(t, api.Redist{To: 1, Seed: seed}, want)
	}
}

// P15.1: a filter that may be: of up to 32 rules, whatever place one that may not be has.
func TestMayFilter(t *testing.T) {
	for count := range 40 {
		x := oneTo()
		x.Filter = rules(count)
		wantMay(t, x, count <= 32)
	}
	wrong := []api.Rule{{Permit: true, Le: 33}, {Ge: 9, Le: 8}, {Ge: -1, Le: 8}, {Prefix: ten, Ge: 7, Le: 8}, {Prefix: api.Prefix{Addr: 1, Len: 0}, Le: 32}, {Prefix: api.Prefix{Len: 33}, Ge: 33, Le: 33}, {Prefix: api.Prefix{Len: -1}, Ge: 0, Le: 32}}
	for _, w := range wrong {
		for _, count := range []int{1, 2, 3, 32} {
			for _, place := range []int{0, count / 2, count - 1} {
				x := oneTo()
				x.Filter = rules(count)
				x.Filter[place] = w
				wantMay(t, x, false)
			}
		}
	}
}

// P15.1: a table that may be: of up to 32 bands, whatever place one that may not be has.
func TestMayTable(t *testing.T) {
	for count := range 40 {
		x := oneTo()
		x.Table = bands(count)
		wantMay(t, x, count <= 32)
	}
	wrong := []api.Band{{Upto: -1, Metric: 1}, {Upto: top + 1, Metric: 40}, {Upto: 5, Metric: 0}, {Upto: 5, Metric: -1}, {Upto: 5, Metric: top}, {Upto: math.MinInt, Metric: math.MinInt}, {Upto: math.MaxInt, Metric: math.MaxInt}}
	for _, w := range wrong {
		for _, count := range []int{1, 2, 3, 32} {
			for _, place := range []int{0, count / 2, count - 1} {
				x := oneTo()
				x.Table = bands(count)
				x.Table[place] = w
				wantMay(t, x, false)
			}
		}
	}
	x := oneTo()
	x.Table = []api.Band{{Upto: 5, Metric: 2}, {Upto: 5, Metric: 2}}
	wantMay(t, x, false)
	x.Table = []api.Band{{Upto: 5, Metric: 2}, {Upto: 6, Metric: 1}}
	wantMay(t, x, false)
}

// P15.1: all that may be at its edges at once, and each part of it made wrong alone.
func TestMayParts(t *testing.T) {
	x := api.Redist{From: 15, To: 0, Filter: rules(32), Table: bands(32), Seed: top - 1}
	wantMay(t, x, true)
	wantMay(t, api.Redist{To: 1}, true)
	for part, spoil := range []func(x *api.Redist){
		func(x *api.Redist) { x.From = 16 },
		func(x *api.Redist) { x.To = -1 },
		func(x *api.Redist) { x.To = x.From },
		func(x *api.Redist) { x.Filter = rules(33) },
		func(x *api.Redist) { x.Filter[31].Le = 33 },
		func(x *api.Redist) { x.Table = bands(33) },
		func(x *api.Redist) { x.Table[31].Metric = 0 },
		func(x *api.Redist) { x.Seed = top },
	} {
		y := copied(x)
		spoil(&y)
		if May(y) {
			t.Errorf("part %d: %+v may be", part, y)
		}
		wantError(t, y, api.Route{Prefix: ten, Domain: y.From, Metric: 5}, api.ErrArg)
	}
}

// P15.2: the route as it comes out: what it keeps, and what is new.
func TestPass(t *testing.T) {
	x := oneTo()
	r := threeRoute()
	wantPass(t, x, r, api.Route{Prefix: ten, Domain: 2, Distance: 90, Metric: 5, Next: 0, Tag: 10}, api.OK)
	for _, n := range numbers {
		r := threeRoute()
		r.Next = n
		wantPass(t, x, r, api.Route{Prefix: ten, Domain: 2, Distance: 90, Metric: 5, Next: 0, Tag: 10}, api.OK)
		r.Distance = n
		wantPass(t, x, r, api.Route{Prefix: ten, Domain: 2, Distance: n, Metric: 5, Next: 0, Tag: 10}, api.OK)
	}
	for _, p := range []api.Prefix{{}, ten, tenOne, eleven, {Addr: 1, Len: 32}, {Addr: math.MaxUint32, Len: 32}, {Addr: 1 << 31, Len: 1}} {
		r := threeRoute()
		r.Prefix = p
		wantPass(t, x, r, api.Route{Prefix: p, Domain: 2, Distance: 90, Metric: 5, Tag: 10}, api.OK)
	}
}

// P15.2: between every two domains, with every tag of few, the tag that comes out has the domain from which it came.
func TestPassDomains(t *testing.T) {
	for from := range 16 {
		for to := range 16 {
			for _, tag := range allTags {
				x := api.Redist{From: from, To: to, Filter: rules(1), Seed: 5}
				r := api.Route{Prefix: tenOne, Domain: from, Distance: 1, Metric: 1, Next: 9, Tag: tag}
				want, e := slowPass(x, r)
				wantPass(t, x, r, want, e)
				errno := api.OK
				switch set := setOf(tag); {
				case from == to:
					errno = api.ErrArg
				case set[from] || set[to]:
					errno = api.ErrLoop
				}
				if e != errno {
					t.Errorf("from %d to %d with %x: %d, want %d", from, to, tag, e, errno)
				}
			}
		}
	}
}

// P15.2: every tag, by a rule between two domains.
func TestPassTags(t *testing.T) {
	x := oneTo()
	for tag := range 1 << 16 {
		r := threeRoute()
		r.Tag = uint16(tag)
		if tag&6 != 0 {
			wantError(t, x, r, api.ErrLoop)
			continue
		}
		wantPass(t, x, r, api.Route{Prefix: ten, Domain: 2, Distance: 90, Metric: 5, Tag: uint16(tag) + 2}, api.OK)
	}
}

// P15.2: From alone, To alone, both, and neither of them in the tag.
func TestPassLoop(t *testing.T) {
	for tag, errno := range map[uint16]api.Errno{0: api.OK, 2: api.ErrLoop, 4: api.ErrLoop, 6: api.ErrLoop, 1: api.OK, 8: api.OK, 0xfff9: api.OK, 0xfffb: api.ErrLoop, 0xfffd: api.ErrLoop, 0xffff: api.ErrLoop} {
		r := threeRoute()
		r.Tag = tag
		if _, e := Pass(oneTo(), r); e != errno {
			t.Errorf("tag %x: %d, want %d", tag, e, errno)
		}
	}
}

// P15.2, R2: by a rule from a domain to itself no route comes, and ErrArg is told first, whatever else stands against it.
func TestPassSame(t *testing.T) {
	for domain := range 16 {
		own := uint16(1) << domain
		for _, tag := range []uint16{0, own, ^own, 0xffff} {
			r := api.Route{Prefix: ten, Domain: domain, Distance: 7, Metric: 9, Next: 4, Tag: tag}
			wantError(t, api.Redist{From: domain, To: domain, Filter: rules(1), Seed: 5}, r, api.ErrArg)
			wantError(t, api.Redist{From: domain, To: domain, Filter: rules(1), Table: bands(3), Seed: 5}, r, api.ErrArg)
			// No metric is told.
			wantError(t, api.Redist{From: domain, To: domain, Filter: rules(1)}, r, api.ErrArg)
			// The filter lets nothing through.
			wantError(t, api.Redist{From: domain, To: domain, Seed: 5}, r, api.ErrArg)
		}
	}
}

// P15.2: a route of another domain, also of one that is none, and of To.
func TestPassOther(t *testing.T) {
	for _, domain := range numbers {
		r := threeRoute()
		r.Domain = domain
		if domain != 1 {
			wantError(t, oneTo(), r, api.ErrArg)
		}
		x := oneTo()
		x.From = domain
		if domain < 0 || domain > 15 {
			wantError(t, x, r, api.ErrArg)
		}
		x = oneTo()
		x.To = domain
		r.Domain = 1
		if domain < 0 || domain > 15 {
			wantError(t, x, r, api.ErrArg)
		}
	}
}

// P15.2: the first rule that fits tells, by the tag with which the route came, and none lets nothing through.
func TestPassFilter(t *testing.T) {
	permit := api.Rule{Permit: true, Prefix: ten, Ge: 8, Le: 24}
	deny := api.Rule{Prefix: ten, Ge: 8, Le: 24}
	tenWith := permit
	tenWith.Has = 8
	with := permit
	with.Has = 8 + 2
	without := permit
	without.Not = 2
	notThree := permit
	notThree.Not = 8
	for i, c := range []struct {
		l     []api.Rule
		errno api.Errno
	}{
		{nil, api.ErrDeny},
		{[]api.Rule{}, api.ErrDeny},
		{[]api.Rule{permit}, api.OK},
		{[]api.Rule{deny}, api.ErrDeny},
		{[]api.Rule{deny, permit}, api.ErrDeny},
		{[]api.Rule{permit, deny}, api.OK},
		{[]api.Rule{{Prefix: eleven, Ge: 8, Le: 32}, permit}, api.OK},
		{[]api.Rule{{Permit: true, Prefix: eleven, Ge: 8, Le: 32}}, api.ErrDeny},
		{[]api.Rule{{Permit: true, Prefix: ten, Ge: 9, Le: 32}}, api.ErrDeny},
		{[]api.Rule{{Permit: true, Le: 7}}, api.ErrDeny},
		{[]api.Rule{{Permit: true, Le: 8}}, api.OK},
		{[]api.Rule{tenWith}, api.OK},
		{[]api.Rule{with}, api.ErrDeny},
		{[]api.Rule{without}, api.OK},
		{[]api.Rule{notThree}, api.ErrDeny},
		{[]api.Rule{notThree, permit}, api.OK},
	} {
		x := oneTo()
		x.Filter = c.l
		want := api.Route{}
		if c.errno == api.OK {
			want = api.Route{Prefix: ten, Domain: 2, Distance: 90, Metric: 5, Tag: 10}
		}
		wantPass(t, x, threeRoute(), want, c.errno)
		if t.Failed() {
			t.Fatalf("case %d", i)
		}
	}
	r := threeRoute()
	for _, p := range []api.Prefix{{Addr: 1, Len: 0}, {Len: 33}, {Len: -1}, {Addr: 0x0a000001, Len: 8}, {Len: math.MinInt}, {Len: math.MaxInt}} {
		// No rule covers a prefix that may not be.
		r.Prefix = p
		wantError(t, oneTo(), r, api.ErrDeny)
	}
}

// P15.2: a metric that a band tells, that the seed tells, that none tells.
func TestPassMetric(t *testing.T) {
	x := oneTo()
	x.Table = []api.Band{{Upto: 10, Metric: 3}, {Upto: 100, Metric: 4}, {Upto: 1000, Metric: top - 1}}
	for _, seed := range []int{0, 1, 9, top - 1} {
		x.Seed = seed
		for _, n := range []int{math.MinInt, -top, -1, 0, 1, 9, 10, 11, 100, 101, 1000, 1001, top, top + 1, math.MaxInt} {
			want := seed
			switch {
			case n < 0:
				want = 0
			case n <= 10:
				want = 3
			case n <= 100:
				want = 4
			case n <= 1000:
				want = top - 1
			}
			r := threeRoute()
			r.Metric = n
			if want == 0 {
				wantError(t, x, r, api.ErrDeny)
				continue
			}
			wantPass(t, x, r, api.Route{Prefix: ten, Domain: 2, Distance: 90, Metric: want, Tag: 10}, api.OK)
		}
	}
	x.Table, x.Seed = nil, 0
	wantError(t, x, threeRoute(), api.ErrDeny)
}

// fault is one thing that stands against a route, and the error that tells it.
type fault struct {
	errno api.Errno
	make  func(x *api.Redist, r *api.Route)
}

// faults are all that P15.2 names, each standing alone, in its order.
func faults() []fault {
	return []fault{
		{api.ErrArg, func(x *api.Redist, r *api.Route) { x.To = 16 }},
		{api.ErrArg, func(x *api.Redist, r *api.Route) { x.To = x.From }},
		{api.ErrArg, func(x *api.Redist, r *api.Route) { x.Seed = -1 }},
		{api.ErrArg, func(x *api.Redist, r *api.Route) { x.Filter = append(x.Filter, rules(32)...) }},
		{api.ErrArg, func(x *api.Redist, r *api.Route) { x.Filter = append(x.Filter, api.Rule{Permit: true, Le: 33}) }},
		{api.ErrArg, func(x *api.Redist, r *api.Route) { x.Table = append(x.Table, api.Band{Upto: 5, Metric: 1}) }},
		{api.ErrArg, func(x *api.Redist, r *api.Route) { r.Domain = 0 }},
		{api.ErrArg, func(x *api.Redist, r *api.Route) { r.Domain = 2 }},
		{api.ErrLoop, func(x *api.Redist, r *api.Route) { r.Tag |= 2 }},
		{api.ErrLoop, func(x *api.Redist, r *api.Route) { r.Tag |= 4 }},
		{api.ErrDeny, func(x *api.Redist, r *api.Route) { x.Filter[0].Permit = false }},
		{api.ErrDeny, func(x *api.Redist, r *api.Route) { x.Filter[0].Not = 8 }},
		{api.ErrDeny, func(x *api.Redist, r *api.Route) { r.Metric = -1 }},
		{api.ErrDeny, func(x *api.Redist, r *api.Route) { r.Metric = 1 << 40 }},
	}
}

// P15.2, R2, R4: each fault alone, and every two of them: the first one is told, and no route with it.
func TestPassFirst(t *testing.T) {
	good := func() (api.Redist, api.Route) {
		return api.Redist{From: 1, To: 2, Filter: rules(1), Table: []api.Band{{Upto: 10, Metric: 5}}}, threeRoute()
	}
	x, r := good()
	wantPass(t, x, r, api.Route{Prefix: ten, Domain: 2, Distance: 90, Metric: 5, Tag: 10}, api.OK)
	for i, one := range faults() {
		x, r := good()
		one.make(&x, &r)
		wantError(t, x, r, one.errno)
		for j, other := range faults() {
			if i == j {
				continue
			}
			x, r := good()
			one.make(&x, &r)
			other.make(&x, &r)
			wantError(t, x, r, min(one.errno, other.errno))
		}
	}
	for _, one := range faults() {
		// All of one error and of those behind it at once.
		x, r := good()
		for _, other := range faults() {
			if other.errno >= one.errno {
				other.make(&x, &r)
			}
		}
		wantError(t, x, r, one.errno)
	}
}

// P15.3: domains and numbers that are none; tags with it, with all but it, with none.
func TestAccept(t *testing.T) {
	for _, domain := range numbers {
		for _, tag := range allTags {
			r := threeRoute()
			r.Tag = tag
			wantAccept(t, domain, r, slowAccept(domain, r))
		}
	}
	for domain := range 16 {
		own := uint16(1) << domain
		for tag, errno := range map[uint16]api.Errno{0: api.OK, own: api.ErrLoop, ^own: api.OK, 0xffff: api.ErrLoop} {
			wantAccept(t, domain, api.Route{Tag: tag}, errno)
			wantAccept(t, domain, api.Route{Domain: domain, Tag: tag}, errno)
			wantAccept(t, domain, api.Route{Prefix: api.Prefix{Len: 40}, Domain: 99, Distance: -1, Metric: -1, Next: -1, Tag: tag}, errno)
		}
	}
	for _, domain := range []int{-1, 16, 17, 31, 32, 64, math.MinInt, math.MaxInt} {
		wantAccept(t, domain, api.Route{}, api.ErrArg)
		wantAccept(t, domain, api.Route{Tag: 0xffff}, api.ErrArg)
		wantAccept(t, domain, api.Route{Domain: domain, Tag: 0xffff}, api.ErrArg)
	}
}

// P15.4: what of a domain and a metric may be, if known; else nothing.
func TestDefault(t *testing.T) {
	for _, domain := range numbers {
		for _, metric := range numbers {
			want, is := slowDefault(domain, metric, true)
			wantDefault(t, domain, metric, true, want, is)
			wantDefault(t, domain, metric, false, api.Route{}, false)
		}
	}
	for _, domain := range []int{0, 1, 15} {
		for _, metric := range []int{1, 2, 1 << 31, top - 1} {
			wantDefault(t, domain, metric, true, api.Route{Domain: domain, Metric: metric}, true)
		}
		for _, metric := range []int{0, -1, top, top + 1, math.MinInt, math.MaxInt} {
			wantDefault(t, domain, metric, true, api.Route{}, false)
		}
	}
	for _, domain := range []int{-1, 16, math.MinInt, math.MaxInt} {
		wantDefault(t, domain, 1, true, api.Route{}, false)
	}
}

// wantChain: a route goes along a chain of domains, all different, and knows where it was at each step.
func wantChain(t *testing.T, chain []int) {
	t.Helper()
	r := api.Route{Prefix: tenOne, Domain: chain[0], Distance: 3, Metric: 2, Next: 8}
	was := map[int]bool{}
	for depth := range chain {
		if r.Tag != tagOf(was) || len(setOf(r.Tag)) != depth || setOf(r.Tag)[r.Domain] {
			t.Fatalf("along %v, at %d: tag %x", chain, depth, r.Tag)
		}
		for to := range 16 {
			errno := api.OK
			if was[to] {
				errno = api.ErrLoop
			}
			wantAccept(t, to, r, errno)
			if to == r.Domain {
				errno = api.ErrArg
			}
			_, e := Pass(api.Redist{From: r.Domain, To: to, Filter: rules(1), Seed: 4}, r)
			if e != errno {
				t.Errorf("along %v, at %d, to %d: %d, want %d", chain, depth, to, e, errno)
			}
		}
		if depth+1 == len(chain) {
			return
		}
		was[r.Domain] = true
		next, e := Pass(api.Redist{From: r.Domain, To: chain[depth+1], Filter: rules(1), Seed: depth + 1}, r)
		if e != api.OK || next.Domain != chain[depth+1] || next.Metric != depth+1 {
			t.Fatalf("along %v, at %d: %+v, %d", chain, depth, next, e)
		}
		r = next
	}
}

// P15.5: what comes through domains one behind the other has the set of these, without the one where it is, and comes to none of them again.
func TestChain(t *testing.T) {
	for _, chain := range [][]int{{5}, {0, 1}, {15, 0}, {3, 1, 2}, {0, 15, 7, 8}} {
		wantChain(t, chain)
	}
	var all []int
	for domain := range 16 {
		all = append(all, domain)
	}
	wantChain(t, all)
	slices.Reverse(all)
	wantChain(t, all)
	c := chance(5)
	for range 300 {
		for i := range all {
			j := i + c.next(16-i)
			all[i], all[j] = all[j], all[i]
		}
		wantChain(t, all[:1+c.next(16)])
	}
}

// P15.5: a route walks by chance as long as it may; then it is in a domain from which none accepts it.
func TestWander(t *testing.T) {
	c := chance(6)
	for range 200 {
		r := api.Route{Prefix: ten, Domain: c.next(16), Metric: 1}
		was := []int{r.Domain}
		for range 400 {
			to := c.next(16)
			next, e := Pass(api.Redist{From: r.Domain, To: to, Filter: rules(1), Seed: 1}, r)
			if (e == api.OK) == slices.Contains(was, to) {
				t.Fatalf("was at %v, to %d: %d", was, to, e)
			}
			if e == api.OK {
				r = next
				was = append(was, to)
			}
		}
		if len(was) < 10 || len(setOf(r.Tag)) != len(was)-1 {
			t.Fatalf("was at %v: tag %x", was, r.Tag)
		}
	}
}

// chance is numbers that follow no short rule, the same ones each time.
type chance uint64

func (c *chance) next(below int) int {
	*c = *c*6364136223846793005 + 1442695040888963407
	return int(uint64(*c)>>33) % below
}

// some is one of a list.
func some[T any](c *chance, l []T) T {
	return l[c.next(len(l))]
}

// redist is a rule that mostly may be, route a route that mostly is of its domain.
func (c *chance) redist() api.Redist {
	x := api.Redist{From: c.next(4), To: c.next(4), Table: bands(c.next(4)), Seed: c.next(3)}
	for range 1 + c.next(3) {
		p := some(c, []api.Prefix{{}, ten, tenOne, eleven})
		x.Filter = append(x.Filter, api.Rule{Permit: c.next(4) > 0, Prefix: p, Ge: p.Len, Le: p.Len + c.next(33-p.Len), Has: uint16(c.next(16) & c.next(16) & c.next(16)), Not: uint16(c.next(16) & c.next(16))})
	}
	switch c.next(20) {
	case 0:
		x.From = some(c, numbers)
	case 1:
		x.To = some(c, numbers)
	case 2:
		x.Seed = some(c, numbers)
	case 3:
		x.Table = append(x.Table, api.Band{Upto: some(c, numbers), Metric: some(c, numbers)})
	case 4:
		x.Filter[c.next(len(x.Filter))].Le = some(c, numbers)
	}
	return x
}

func (c *chance) route(x api.Redist) api.Route {
	r := api.Route{Prefix: some(c, []api.Prefix{{}, ten, tenOne, eleven}), Domain: x.From, Distance: c.next(100), Metric: c.next(50), Next: c.next(3), Tag: uint16(c.next(1<<16) & c.next(1<<16) & c.next(1<<16))}
	switch c.next(16) {
	case 0:
		r.Domain = some(c, numbers)
	case 1:
		r.Metric = some(c, numbers)
	case 2:
		r.Prefix.Len = some(c, numbers)
	}
	return r
}

// P15.1, P15.2: many rules and routes, by another way.
func TestMany(t *testing.T) {
	c := chance(1)
	count := map[api.Errno]int{}
	for range 60000 {
		x := c.redist()
		wantMay(t, x, slowMay(x))
		r := c.route(x)
		want, e := slowPass(x, r)
		wantPass(t, x, r, want, e)
		count[e]++
	}
	for _, e := range []api.Errno{api.OK, api.ErrArg, api.ErrLoop, api.ErrDeny} {
		if count[e] < 4000 {
			t.Errorf("error %d came only %d times", e, count[e])
		}
	}
}

// R3: the rules and bands that are handed in stay as they were, also behind the lists' ends.
func TestListsStay(t *testing.T) {
	l, b := rules(33), bands(33)
	wasRules, wasBands := slices.Clone(l), slices.Clone(b)
	for count := range 34 {
		x := api.Redist{From: 1, To: 2, Filter: l[:count], Table: b[:count], Seed: 5}
		May(x)
		for n := range 34 {
			r := threeRoute()
			r.Metric = 10 * n
			Pass(x, r)
			Accept(n, r)
		}
		if !slices.Equal(l, wasRules) || !slices.Equal(b, wasBands) {
			t.Fatalf("%d rules and bands became %+v, %+v", count, l, b)
		}
	}
}

// R5: nothing hangs on what was asked before.
func TestAskedTwice(t *testing.T) {
	x := oneTo()
	for range 3 {
		wantPass(t, x, threeRoute(), api.Route{Prefix: ten, Domain: 2, Distance: 90, Metric: 5, Tag: 10}, api.OK)
		wantError(t, x, api.Route{Prefix: ten, Domain: 1, Tag: 4}, api.ErrLoop)
		wantError(t, x, api.Route{Prefix: ten, Domain: 3}, api.ErrArg)
		wantAccept(t, 3, threeRoute(), api.ErrLoop)
		wantAccept(t, 2, threeRoute(), api.OK)
		wantDefault(t, 1, 1, true, api.Route{Domain: 1, Metric: 1}, true)
		wantDefault(t, 1, 1, false, api.Route{}, false)
	}
	x.Filter[0].Permit = false
	wantError(t, x, threeRoute(), api.ErrDeny)
}

// P1: long lists end as short ones do.
func TestLong(t *testing.T) {
	x := oneTo()
	x.Filter, x.Table = rules(1<<18), bands(1<<18)
	wantMay(t, x, false)
	wantError(t, x, threeRoute(), api.ErrArg)
}

// The chapter's examples.
func TestExamples(t *testing.T) {
	x := api.Redist{From: 1, To: 2, Filter: []api.Rule{{Permit: true, Le: 32}}, Seed: 5}
	wantPass(t, x, api.Route{Domain: 1, Tag: 1 << 3}, api.Route{Domain: 2, Metric: 5, Tag: 1<<1 + 1<<3}, api.OK)
	wantError(t, x, api.Route{Domain: 1, Tag: 1 << 2}, api.ErrLoop)
}

// P1, R1: no call panics, at any argument, and all keep to their promises.
func FuzzCalls(f *testing.F) {
	f.Add(1, 2, 5, 1, 7, uint32(10<<24), 8, uint16(8), true, 0, 32, 10, 1)
	f.Add(0, 0, 0, 0, 0, uint32(0), 0, uint16(0), false, 0, 0, 0, 0)
	f.Add(-1, 16, -1, 16, -1, uint32(1), 33, uint16(0xffff), true, -1, 33, -1, 0)
	f.Add(math.MinInt, math.MaxInt, math.MaxInt, math.MinInt, math.MinInt, uint32(math.MaxUint32), math.MaxInt, uint16(1), true, math.MinInt, math.MaxInt, math.MaxInt, math.MinInt)
	f.Add(15, 15, top-1, 15, top, uint32(1<<31), 1, uint16(0x7fff), true, 0, 32, top, top-1)
	f.Add(3, 4, top, 3, 0, uint32(0), 0, uint16(0), true, 0, 32, 0, 1)
	f.Fuzz(func(t *testing.T, from, to, seed, domain, metric int, addr uint32, bits int, tag uint16, permit bool, ge, le, upto, becomes int) {
		p := api.Prefix{Addr: addr, Len: bits}
		l := []api.Rule{{Permit: permit, Prefix: p, Ge: ge, Le: le, Not: tag}, {Permit: permit, Ge: ge, Le: le}, {Permit: true, Le: 32}}
		b := []api.Band{{Upto: upto, Metric: becomes}, {Upto: metric, Metric: seed}}
		for _, x := range []api.Redist{
			{From: from, To: to, Filter: l, Table: b, Seed: seed},
			{From: from, To: to, Filter: l[1:], Table: b[:1], Seed: seed},
			{From: from, To: to, Filter: l[2:], Seed: seed},
			{From: domain, To: to, Filter: l[2:], Table: b[1:], Seed: 1},
			{From: to, To: from},
		} {
			wantMay(t, x, slowMay(x))
			for _, d := range []int{domain, from, to} {
				r := api.Route{Prefix: p, Domain: d, Distance: seed, Metric: metric, Next: ge, Tag: tag}
				want, e := slowPass(x, r)
				wantPass(t, x, r, want, e)
				wantAccept(t, from, r, slowAccept(from, r))
				wantAccept(t, d, r, slowAccept(d, r))
			}
		}
		for _, known := range []bool{true, false} {
			want, is := slowDefault(domain, metric, known)
			wantDefault(t, domain, metric, known, want, is)
		}
		if t.Failed() {
			t.Log(fmt.Sprint(from, to, seed, domain, metric, p, tag, permit, ge, le, upto, becomes))
		}
	})
}
