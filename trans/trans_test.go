package trans

import (
	"math"
	"slices"
	"strconv"
	"testing"

	"octroi/api"
)

// top is 2^32 - 1, by its figures.
const top = 4294967295

// numbers are those about the edges, and the least and the greatest ones.
var numbers = []int{math.MinInt, math.MinInt + 1, -top, -11, -2, -1, 0, 1, 2, 9, 10, 11, 12, 99, 100, 101, 1 << 16, 1<<31 - 1, 1 << 31, top - 2, top - 1, top, top + 1, top + 2, math.MaxInt - 1, math.MaxInt}

// seeds are those that may be told, and noSeeds those that may not.
var (
	seeds   = []int{1, 2, 7, 1 << 31, top - 2, top - 1}
	noSeeds = []int{0, -1, -7, math.MinInt, math.MinInt + 1, top, top + 1, 1<<32 + 7, math.MaxInt}
)

// slowMay is P14.1: each band is held against all those ahead of it.
func slowMay(l []api.Band) bool {
	for i, b := range l {
		if b.Upto < 0 || b.Upto > top || b.Metric < 1 || b.Metric > top-1 {
			return false
		}
		for _, a := range l[:i] {
			if a.Upto >= b.Upto || a.Metric > b.Metric {
				return false
			}
		}
	}
	return len(l) <= 32
}

// slowTo is P14.2 from the end: a band that has n takes the place of those behind it.
func slowTo(l []api.Band, seed, n int) (int, bool) {
	if n < 0 {
		return 0, false
	}
	m, told := 0, false
	if seed >= 1 && seed <= top-1 {
		m, told = seed, true
	}
	for i := len(l) - 1; i >= 0; i-- {
		if !(l[i].Upto < n) {
			m, told = l[i].Metric, true
		}
	}
	return m, told
}

// chance is numbers that follow no short rule, the same ones each time.
type chance uint64

func (c *chance) next(below int) int {
	*c = *c*6364136223846793005 + 1442695040888963407
	return int(uint64(*c)>>33) % below
}

// some is one of a list.
func some[T any](c *chance, l []T) T {
	return l[c.next(len(l))]
}

// bands are so many that may be, their metrics each told by two or three.
func bands(count int) []api.Band {
	var out []api.Band
	for i := range count {
		out = append(out, api.Band{Upto: 10 * i, Metric: 1 + 2*i/5})
	}
	return out
}

// rising is bands that may be, by chance: narrow and wide ones.
func (c *chance) rising(count int) []api.Band {
	var out []api.Band
	b := api.Band{Upto: c.next(3), Metric: 1 + c.next(3)}
	for range count {
		out = append(out, b)
		b.Upto += 1 + c.next(some(c, []int{1, 3, 20, 1 << 26}))
		b.Metric += c.next(some(c, []int{1, 2, 20, 1 << 26}))
	}
	return out
}

// any is bands that often may not be.
func (c *chance) any(count int) []api.Band {
	var out []api.Band
	for range count {
		b := api.Band{Upto: c.next(30), Metric: c.next(10)}
		if c.next(8) == 0 {
			b.Upto = some(c, numbers)
		}
		if c.next(8) == 0 {
			b.Metric = some(c, numbers)
		}
		out = append(out, b)
	}
	return out
}

// with is a list with one more at a place.
func with(l []api.Band, place int, b api.Band) []api.Band {
	return slices.Insert(slices.Clone(l), place, b)
}

// show is a list as a text for what went wrong.
func show(l []api.Band) string {
	text := "["
	for _, b := range l {
		text += " " + strconv.Itoa(b.Upto) + ":" + strconv.Itoa(b.Metric)
	}
	return text + " ]"
}

func wantMay(t *testing.T, l []api.Band, want bool) {
	t.Helper()
	was := slices.Clone(l)
	if got := May(l); got != want {
		t.Errorf("May(%s) = %v, want %v", show(l), got, want)
	}
	if !slices.Equal(l, was) {
		t.Errorf("May(%s) made it %s", show(was), show(l))
	}
}

func wantTo(t *testing.T, l []api.Band, seed, n, metric int, told bool) {
	t.Helper()
	was := slices.Clone(l)
	if got, is := To(l, seed, n); got != metric || is != told {
		t.Errorf("To(%s, %d, %d) = %d, %v, want %d, %v", show(l), seed, n, got, is, metric, told)
	}
	if !slices.Equal(l, was) {
		t.Errorf("To(%s, %d, %d) made it %s", show(was), seed, n, show(l))
	}
}

// P14.1: no band, and so many as may be, and one more.
func TestMayCount(t *testing.T) {
	wantMay(t, nil, true)
	wantMay(t, []api.Band{}, true)
	for count := range 70 {
		wantMay(t, bands(count), count <= 32)
	}
	wantMay(t, bands(1<<16), false)
	wantMay(t, make([]api.Band, 33), false)
}

// P14.1: a list is as long as it is, however much more there is behind it.
func TestMayBehind(t *testing.T) {
	l := append(bands(31), api.Band{Upto: 1, Metric: 1}, api.Band{})
	wantMay(t, l[:31], true)
	wantMay(t, l[:32], false)
	wantMay(t, slices.Grow(bands(32), 100), true)
}

// P14.1: the edges of one band alone.
func TestMayOne(t *testing.T) {
	for _, upto := range []int{0, 1, 2, 100, 1 << 31, top - 1, top} {
		for _, metric := range []int{1, 2, 100, 1 << 31, top - 2, top - 1} {
			wantMay(t, []api.Band{{Upto: upto, Metric: metric}}, true)
		}
		for _, metric := range noSeeds {
			wantMay(t, []api.Band{{Upto: upto, Metric: metric}}, false)
		}
	}
	for _, upto := range []int{-1, -2, -top, math.MinInt, math.MinInt + 1, top + 1, top + 2, 1 << 33, math.MaxInt - 1, math.MaxInt} {
		for _, metric := range numbers {
			wantMay(t, []api.Band{{Upto: upto, Metric: metric}}, false)
		}
	}
}

// P14.1: a first Upto of -1 is none, also ahead of bands that may be.
func TestMayFirst(t *testing.T) {
	for upto, want := range map[int]bool{-1: false, 0: true, 1: true, math.MinInt: false} {
		wantMay(t, []api.Band{{Upto: upto, Metric: 1}}, want)
		wantMay(t, []api.Band{{Upto: upto, Metric: 1}, {Upto: 5, Metric: 2}}, want)
		wantMay(t, []api.Band{{Upto: upto, Metric: 1}, {Upto: top, Metric: top - 1}}, want)
	}
}

// P14.1: a last Upto of 2^32 - 1 may be, one of 2^32 may not.
func TestMayLast(t *testing.T) {
	for upto, want := range map[int]bool{top - 1: true, top: true, top + 1: false, math.MaxInt: false} {
		wantMay(t, []api.Band{{Upto: upto, Metric: 1}}, want)
		wantMay(t, []api.Band{{Upto: 5, Metric: 1}, {Upto: upto, Metric: 1}}, want)
		wantMay(t, append(bands(31), api.Band{Upto: upto, Metric: 100}), want)
	}
	wantMay(t, []api.Band{{Upto: top, Metric: 1}, {Upto: top + 1, Metric: 1}}, false)
	wantMay(t, []api.Band{{Upto: top - 1, Metric: 1}, {Upto: top, Metric: 1}}, true)
}

// P14.1: what a band may be behind another one: Upto is more, Metric is not less.
func TestMayTwo(t *testing.T) {
	for _, ahead := range []api.Band{{Upto: 0, Metric: 1}, {Upto: 1, Metric: 2}, {Upto: 10, Metric: 5}, {Upto: 1 << 31, Metric: 1 << 31}, {Upto: top - 2, Metric: top - 2}, {Upto: top - 1, Metric: top - 1}} {
		for by := -2; by <= 2; by++ {
			for more := -2; more <= 2; more++ {
				b := api.Band{Upto: ahead.Upto + by, Metric: ahead.Metric + more}
				wantMay(t, []api.Band{ahead, b}, by > 0 && b.Upto <= top && more >= 0 && b.Metric < top)
			}
		}
		for _, n := range numbers {
			wantMay(t, []api.Band{ahead, {Upto: n, Metric: ahead.Metric}}, n > ahead.Upto && n <= top)
			wantMay(t, []api.Band{ahead, {Upto: ahead.Upto + 1, Metric: n}}, n >= ahead.Metric && n < top)
		}
	}
}

// P14.1: every two bands of few numbers.
func TestMayPairs(t *testing.T) {
	for _, upto := range numbers {
		for _, metric := range numbers {
			for _, next := range numbers {
				for _, then := range numbers {
					l := []api.Band{{Upto: upto, Metric: metric}, {Upto: next, Metric: then}}
					wantMay(t, l, 0 <= upto && upto < next && next <= top && 1 <= metric && metric <= then && then <= top-1)
				}
			}
		}
	}
}

// P14.1: one that may not be, as the first one, in the middle and as the last one, is enough.
func TestMayAmong(t *testing.T) {
	for _, count := range []int{1, 2, 3, 5, 31, 32} {
		for place := range count {
			for _, n := range []int{math.MinInt, -1, top + 1, math.MaxInt} {
				l := bands(count)
				l[place].Upto = n
				wantMay(t, l, false)
			}
			for _, n := range noSeeds {
				l := bands(count)
				l[place].Metric = n
				wantMay(t, l, false)
			}
			if place > 0 {
				l := bands(count)
				l[place].Upto = l[place-1].Upto
				wantMay(t, l, false)
				l[place].Upto--
				wantMay(t, l, false)
				l[place].Upto += 2
				wantMay(t, l, true)
				l[place].Metric = l[place-1].Metric - 1
				wantMay(t, l, false)
				l[place].Metric++
				wantMay(t, l, true)
			}
		}
	}
}

// P14.1: metrics that are all the same never fall; those that fall by one at the end do.
func TestMayEven(t *testing.T) {
	l := bands(32)
	for i := range l {
		l[i].Metric = 7
	}
	wantMay(t, l, true)
	l[31].Metric = 6
	wantMay(t, l, false)
	l[31].Metric, l[0].Metric = 7, 8
	wantMay(t, l, false)
}

// P14.1: many lists, by another way.
func TestMayMany(t *testing.T) {
	c := chance(1)
	may := 0
	for range 40000 {
		l := c.any(c.next(5))
		if c.next(2) == 0 {
			l = c.rising(c.next(34))
			if len(l) > 0 && c.next(2) == 0 {
				l[c.next(len(l))] = c.any(1)[0]
			}
		}
		want := slowMay(l)
		wantMay(t, l, want)
		if want && len(l) > 1 {
			may++
		}
	}
	if may < 4000 {
		t.Errorf("only %d of the lists may be", may)
	}
}

// P14.2: no band tells, so that the seed does, if it may be told.
func TestNoBand(t *testing.T) {
	for _, l := range [][]api.Band{nil, {}, bands(3)[:0]} {
		for _, n := range []int{0, 1, 16, top, top + 1, math.MaxInt} {
			for _, seed := range seeds {
				wantTo(t, l, seed, n, seed, true)
			}
			for _, seed := range noSeeds {
				wantTo(t, l, seed, n, 0, false)
			}
		}
	}
}

// P14.2: what lies at a band's Upto, below it and above it, by hand.
func TestEdges(t *testing.T) {
	l := []api.Band{{Upto: 0, Metric: 3}, {Upto: 10, Metric: 3}, {Upto: 11, Metric: 4}, {Upto: 100, Metric: 9}, {Upto: top, Metric: top - 1}}
	for _, seed := range append(slices.Clone(seeds), noSeeds...) {
		for n, metric := range map[int]int{0: 3, 1: 3, 9: 3, 10: 3, 11: 4, 12: 9, 50: 9, 99: 9, 100: 9, 101: top - 1, 1 << 31: top - 1, top - 1: top - 1, top: top - 1} {
			wantTo(t, l, seed, n, metric, true)
		}
	}
}

// P14.2: behind the last band the seed is told, or none.
func TestBehind(t *testing.T) {
	for _, l := range [][]api.Band{{{Upto: 0, Metric: 1}}, {{Upto: 10, Metric: 1}, {Upto: 100, Metric: 5}}, {{Upto: top, Metric: 5}}, bands(32)} {
		end := l[len(l)-1].Upto
		for _, n := range []int{end + 1, end + 2, end + 1<<32, math.MaxInt - 1, math.MaxInt} {
			for _, seed := range seeds {
				wantTo(t, l, seed, n, seed, true)
				wantTo(t, l, seed, end, l[len(l)-1].Metric, true)
			}
			for _, seed := range noSeeds {
				wantTo(t, l, seed, n, 0, false)
				wantTo(t, l, seed, end, l[len(l)-1].Metric, true)
			}
		}
	}
}

// P14.2: a metric below 0 is none, whatever the bands and the seed.
func TestBelow(t *testing.T) {
	lists := [][]api.Band{nil, bands(1), bands(32), bands(40), {{Upto: -1, Metric: 5}}, {{Upto: math.MinInt, Metric: 5}, {Upto: math.MaxInt, Metric: 6}}}
	for _, l := range lists {
		for _, seed := range append(slices.Clone(seeds), noSeeds...) {
			for _, n := range []int{-1, -2, -top, math.MinInt + 1, math.MinInt} {
				wantTo(t, l, seed, n, 0, false)
			}
		}
		wantTo(t, l, 7, math.MaxInt, map[bool]int{true: 6, false: 7}[len(l) == 2], true)
	}
}

// P14.2: each band of so many as may be, and of more, at its first metric and its last one.
func TestEach(t *testing.T) {
	for _, count := range []int{1, 2, 3, 31, 32, 33, 100} {
		l := bands(count)
		for i, b := range l {
			wantTo(t, l, 0, b.Upto, b.Metric, true)
			if i > 0 {
				wantTo(t, l, 0, l[i-1].Upto+1, b.Metric, true)
				wantTo(t, l, 0, b.Upto-1, b.Metric, true)
			}
		}
		wantTo(t, l, 0, l[count-1].Upto+1, 0, false)
		wantTo(t, l, 1, l[count-1].Upto+1, 1, true)
	}
}

// P14.2: of bands that may not be, the first one whose Upto is not less tells, by its metric, whatever that is.
func TestWrongBands(t *testing.T) {
	falls := []api.Band{{Upto: 100, Metric: 5}, {Upto: 10, Metric: 1}, {Upto: 200, Metric: 3}, {Upto: 150, Metric: 2}}
	for n, metric := range map[int]int{0: 5, 10: 5, 11: 5, 100: 5, 101: 3, 150: 3, 200: 3, 201: 9} {
		wantTo(t, falls, 9, n, metric, true)
	}
	same := []api.Band{{Upto: 10, Metric: 4}, {Upto: 10, Metric: 2}, {Upto: 11, Metric: 1}}
	wantTo(t, same, 9, 10, 4, true)
	wantTo(t, same, 9, 11, 1, true)
	for _, metric := range noSeeds {
		l := []api.Band{{Upto: 10, Metric: metric}, {Upto: 20, Metric: 5}}
		wantTo(t, l, 7, 0, metric, true)
		wantTo(t, l, 0, 10, metric, true)
		wantTo(t, l, 0, 11, 5, true)
		wantTo(t, l, 0, 21, 0, false)
	}
	below := []api.Band{{Upto: math.MinInt, Metric: 1}, {Upto: -1, Metric: 2}, {Upto: 0, Metric: 3}, {Upto: math.MaxInt, Metric: 4}}
	wantTo(t, below, 9, 0, 3, true)
	wantTo(t, below, 9, 1, 4, true)
	wantTo(t, below, 9, math.MaxInt, 4, true)
	wantTo(t, below, 9, -1, 0, false)
	wantTo(t, below, 9, math.MinInt, 0, false)
}

// P14.2: many translations, by another way.
func TestToMany(t *testing.T) {
	c := chance(2)
	byBand, bySeed, none := 0, 0, 0
	for range 60000 {
		l := c.any(c.next(6))
		if c.next(2) == 0 {
			l = c.rising(c.next(33))
		}
		seed, n := c.next(5), c.next(60)
		if c.next(4) == 0 {
			seed, n = some(&c, numbers), some(&c, numbers)
		}
		if len(l) > 0 && c.next(3) == 0 {
			n = some(&c, l).Upto
		}
		metric, told := slowTo(l, seed, n)
		wantTo(t, l, seed, n, metric, told)
		switch {
		case !told:
			none++
		case len(l) > 0 && slices.MaxFunc(l, func(a, b api.Band) int { return a.Upto - b.Upto }).Upto >= n:
			byBand++
		default:
			bySeed++
		}
	}
	if byBand < 5000 || bySeed < 5000 || none < 5000 {
		t.Errorf("bands tell %d, seeds %d, none %d", byBand, bySeed, none)
	}
}

// wantOrder: of all metrics that bands tell, a lesser one never becomes a greater one.
func wantOrder(t *testing.T, l []api.Band, metrics []int) {
	t.Helper()
	metrics = slices.Clone(metrics)
	slices.Sort(metrics)
	least := 1
	for _, n := range metrics {
		if n < 0 || len(l) == 0 || n > l[len(l)-1].Upto {
			continue
		}
		m, told := To(l, 0, n)
		if !told || m < least {
			t.Errorf("To(%s, 0, %d) = %d, %v, but a lesser one became %d", show(l), n, m, told, least)
		}
		least = m
	}
}

// P14.3: the order of metrics stays, as long as bands tell them.
func TestOrder(t *testing.T) {
	c := chance(3)
	for range 3000 {
		l := c.rising(1 + c.next(32))
		if !May(l) {
			t.Fatalf("%s may not be", show(l))
		}
		metrics := slices.Clone(numbers)
		for _, b := range l {
			metrics = append(metrics, b.Upto-1, b.Upto, b.Upto+1, c.next(1<<31))
		}
		wantOrder(t, l, metrics)
	}
	for count := range 33 {
		var all []int
		for n := range 10 * count {
			all = append(all, n)
		}
		wantOrder(t, bands(count), all)
	}
}

// R3: the bands that are handed in stay as they were, also behind the list's end.
func TestBandsStay(t *testing.T) {
	l := bands(33)
	was := slices.Clone(l)
	for count := range 34 {
		May(l[:count])
		for _, b := range was {
			To(l[:count], 5, b.Upto)
			To(l[:count], 0, b.Upto+1)
		}
		if !slices.Equal(l, was) {
			t.Fatalf("%s became %s", show(was), show(l))
		}
	}
}

// R5: nothing hangs on what was asked before.
func TestAskedTwice(t *testing.T) {
	l := bands(3)
	for range 3 {
		wantTo(t, l, 7, 20, 1, true)
		wantTo(t, l, 7, 21, 7, true)
		wantTo(t, l, 0, 21, 0, false)
		wantTo(t, l, 7, -1, 0, false)
		wantTo(t, nil, 9, 0, 9, true)
		wantMay(t, l, true)
		wantMay(t, bands(33), false)
	}
	l[2].Metric = 9
	wantTo(t, l, 7, 20, 9, true)
	l[2].Upto = 10
	wantMay(t, l, false)
	wantTo(t, l, 7, 20, 7, true)
}

// P1: a long list ends as a short one does.
func TestLong(t *testing.T) {
	l := bands(1 << 18)
	wantTo(t, l, 0, 10<<18-10, l[1<<18-1].Metric, true)
	wantTo(t, l, 0, 10<<18, 0, false)
	wantMay(t, l, false)
}

// The chapter's examples.
func TestExamples(t *testing.T) {
	l := []api.Band{{Upto: 10, Metric: 1}, {Upto: 100, Metric: 5}}
	wantMay(t, l, true)
	wantTo(t, l, 0, 10, 1, true)
	wantTo(t, l, 0, 11, 5, true)
	wantTo(t, l, 0, 101, 0, false)
}

// P1, R1: no call panics, at any argument, and both keep to their promises; the bands are four bytes each.
func FuzzCalls(f *testing.F) {
	f.Add([]byte{0, 10, 0, 1, 0, 100, 0, 5}, 0, 11, 200, 7)
	f.Add([]byte{}, 1, 0, 0, 0)
	f.Add([]byte{0, 0, 0, 0}, top, -1, -1, top)
	f.Add(make([]byte, 4*33), math.MinInt, math.MaxInt, math.MaxInt, math.MinInt)
	f.Add([]byte{255, 255, 255, 255, 128, 0, 128, 0}, math.MaxInt, math.MinInt, math.MinInt, math.MaxInt)
	f.Add([]byte{0, 1, 0, 1, 0, 2, 0, 1, 0, 3, 0, 2}, top-1, 3, top, top-1)
	f.Fuzz(func(t *testing.T, b []byte, seed, n, upto, metric int) {
		var l []api.Band
		for ; len(b) >= 4 && len(l) < 40; b = b[4:] {
			l = append(l, api.Band{Upto: int(int8(b[0]))<<8 + int(b[1]), Metric: int(int8(b[2]))<<8 + int(b[3])})
		}
		own := api.Band{Upto: upto, Metric: metric}
		for _, l := range [][]api.Band{l, with(l, 0, own), with(l, len(l), own), {own}, {{Upto: n, Metric: seed}, own}} {
			may := slowMay(l)
			wantMay(t, l, may)
			for _, n := range []int{n, n - 1, n + 1, upto, upto - 1, upto + 1, seed, 0, -1, top} {
				for _, seed := range []int{seed, metric, 0, 1, top - 1, top} {
					m, told := slowTo(l, seed, n)
					wantTo(t, l, seed, n, m, told)
				}
			}
			if may {
				wantOrder(t, l, []int{n, n - 1, n + 1, upto, upto + 1, 0, 1, top})
			}
		}
	})
}
