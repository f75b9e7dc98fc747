package metric

import (
	"math"
	"math/big"
	"testing"

	"octroi/api"
)

// The limits, by hand.
const (
	mostBand  = 10000000
	mostDelay = 16777216
	mostHops  = 100
	inf       = 4294967295
)

// bands, delays and hopses are numbers at the edges of what each may be, and far beyond them.
var (
	bands  = []int{math.MinInt, math.MinInt32, -1, 0, 1, 2, 3, 7, 100, 1000, 5000001, mostBand - 1, mostBand, mostBand + 1, 1 << 32, 1<<32 + 5, math.MaxInt - 1, math.MaxInt}
	delays = []int{math.MinInt, -1 << 32, -1, 0, 1, 10, 1 << 23, 1<<23 + 1, mostDelay - 2, mostDelay - 1, mostDelay, mostDelay + 1, 1 << 32, 1 << 53, 1<<53 + 1, math.MaxInt - 1, math.MaxInt}
	hopses = []int{math.MinInt, -1 << 32, -100, -1, 0, 1, 50, 51, 98, 99, 100, 101, 256, 1<<32 + 3, math.MaxInt - 1, math.MaxInt}
)

// everyVector calls f with each vector of these numbers.
func everyVector(f func(v api.Vector)) {
	for _, band := range bands {
		for _, delay := range delays {
			for _, hops := range hopses {
				f(api.Vector{Band: band, Delay: delay, Hops: hops})
			}
		}
	}
}

// slowAdd is P1.2's Add, with numbers that have no bound.
func slowAdd(a, b, most int) int {
	sum := new(big.Int)
	for _, n := range []int{a, b} {
		if n > 0 {
			sum.Add(sum, big.NewInt(int64(n)))
		}
	}
	if sum.Cmp(big.NewInt(int64(most))) > 0 {
		return most
	}
	return int(sum.Int64())
}

// slowJoin is P4.2's Join, each part by itself.
func slowJoin(v, link api.Vector) api.Vector {
	band := v.Band
	if link.Band < band {
		band = link.Band
	}
	return api.Vector{Band: band, Delay: slowAdd(v.Delay, link.Delay, mostDelay), Hops: slowAdd(v.Hops, link.Hops, mostHops)}
}

// outside tells whether a number is not from least to most.
func outside(n, least, most int) bool {
	return n < least || n > most
}

func slowMay(v api.Vector) bool {
	return !(outside(v.Band, 1, mostBand) || outside(v.Delay, 0, mostDelay) || outside(v.Hops, 0, mostHops))
}

func slowReached(v api.Vector) bool {
	return !(outside(v.Band, 1, mostBand) || outside(v.Delay, 0, mostDelay-1) || outside(v.Hops, 0, mostHops-1))
}

// slowOf is P4.3's Of, with numbers that have no bound.
func slowOf(v api.Vector) int {
	if !slowReached(v) {
		return inf
	}
	sum := new(big.Int).Quo(big.NewInt(mostBand), big.NewInt(int64(v.Band)))
	sum.Add(sum, big.NewInt(int64(v.Delay)))
	sum.Mul(sum, big.NewInt(256))
	if sum.Cmp(big.NewInt(inf-1)) > 0 {
		return inf - 1
	}
	return int(sum.Int64())
}

func slowBetter(a, b api.Vector) bool {
	if slowOf(a) != slowOf(b) {
		return slowOf(a) < slowOf(b)
	}
	return a.Hops < b.Hops
}

// P4.1: May and Reached, by hand, at the edges of each number.
func TestMayAndReached(t *testing.T) {
	for _, c := range []struct {
		v            api.Vector
		may, reached bool
	}{
		{api.Vector{Band: 1000, Delay: 10, Hops: 1}, true, true},
		{api.Vector{}, false, false},
		// Band
		{api.Vector{Band: 0, Delay: 10, Hops: 1}, false, false},
		{api.Vector{Band: 1, Delay: 10, Hops: 1}, true, true},
		{api.Vector{Band: mostBand, Delay: 10, Hops: 1}, true, true},
		{api.Vector{Band: mostBand + 1, Delay: 10, Hops: 1}, false, false},
		{api.Vector{Band: -1, Delay: 10, Hops: 1}, false, false},
		{api.Vector{Band: math.MinInt, Delay: 10, Hops: 1}, false, false},
		{api.Vector{Band: math.MaxInt, Delay: 10, Hops: 1}, false, false},
		// Delay
		{api.Vector{Band: 1000, Delay: -1, Hops: 1}, false, false},
		{api.Vector{Band: 1000, Delay: 0, Hops: 1}, true, true},
		{api.Vector{Band: 1000, Delay: mostDelay - 1, Hops: 1}, true, true},
		{api.Vector{Band: 1000, Delay: mostDelay, Hops: 1}, true, false},
		{api.Vector{Band: 1000, Delay: mostDelay + 1, Hops: 1}, false, false},
		{api.Vector{Band: 1000, Delay: math.MinInt, Hops: 1}, false, false},
		{api.Vector{Band: 1000, Delay: math.MaxInt, Hops: 1}, false, false},
		// Hops
		{api.Vector{Band: 1000, Delay: 10, Hops: -1}, false, false},
		{api.Vector{Band: 1000, Delay: 10, Hops: 0}, true, true},
		{api.Vector{Band: 1000, Delay: 10, Hops: 99}, true, true},
		{api.Vector{Band: 1000, Delay: 10, Hops: 100}, true, false},
		{api.Vector{Band: 1000, Delay: 10, Hops: 101}, false, false},
		{api.Vector{Band: 1000, Delay: 10, Hops: math.MinInt}, false, false},
		{api.Vector{Band: 1000, Delay: 10, Hops: math.MaxInt}, false, false},
		// all at once
		{api.Vector{Band: 1, Delay: 0, Hops: 0}, true, true},
		{api.Vector{Band: mostBand, Delay: mostDelay - 1, Hops: 99}, true, true},
		{api.Vector{Band: mostBand, Delay: mostDelay, Hops: 100}, true, false},
		{api.Vector{Band: mostBand + 1, Delay: mostDelay + 1, Hops: 101}, false, false},
		{api.Vector{Band: -1, Delay: -1, Hops: -1}, false, false},
	} {
		if got := May(c.v); got != c.may {
			t.Errorf("May(%+v) = %v, want %v", c.v, got, c.may)
		}
		if got := Reached(c.v); got != c.reached {
			t.Errorf("Reached(%+v) = %v, want %v", c.v, got, c.reached)
		}
	}
}

// P4.1: May and Reached, of every vector of numbers at the edges.
func TestMayAndReachedAll(t *testing.T) {
	may, reached := 0, 0
	everyVector(func(v api.Vector) {
		if got, want := May(v), slowMay(v); got != want {
			t.Fatalf("May(%+v) = %v, want %v", v, got, want)
		}
		if got, want := Reached(v), slowReached(v); got != want {
			t.Fatalf("Reached(%+v) = %v, want %v", v, got, want)
		}
		if May(v) {
			may++
		}
		if Reached(v) {
			reached++
		}
	})
	// how many of the numbers above may be, and are reached, counted by hand
	if wantMay, wantReached := 9*8*7, 9*7*6; may != wantMay || reached != wantReached {
		t.Errorf("%d may be, %d are reached, want %d, %d", may, reached, wantMay, wantReached)
	}
}

// P4.2: Join, by hand: each case in either order.
func TestJoin(t *testing.T) {
	for _, c := range []struct{ v, link, want api.Vector }{
		{api.Vector{Band: 1000, Delay: 10, Hops: 1}, api.Vector{Band: 100, Delay: 20, Hops: 1}, api.Vector{Band: 100, Delay: 30, Hops: 2}},
		{api.Vector{Band: 7, Delay: 0, Hops: 0}, api.Vector{Band: 7, Delay: 0, Hops: 0}, api.Vector{Band: 7}},
		{api.Vector{}, api.Vector{}, api.Vector{}},
		{api.Vector{}, api.Vector{Band: 9, Delay: 8, Hops: 7}, api.Vector{Band: 0, Delay: 8, Hops: 7}},
		// Band: the lesser one, as it is
		{api.Vector{Band: 1}, api.Vector{Band: mostBand}, api.Vector{Band: 1}},
		{api.Vector{Band: mostBand}, api.Vector{Band: mostBand + 1}, api.Vector{Band: mostBand}},
		{api.Vector{Band: mostBand + 2}, api.Vector{Band: mostBand + 1}, api.Vector{Band: mostBand + 1}},
		{api.Vector{Band: -1}, api.Vector{Band: 1}, api.Vector{Band: -1}},
		{api.Vector{Band: -1}, api.Vector{Band: -2}, api.Vector{Band: -2}},
		{api.Vector{Band: math.MinInt}, api.Vector{Band: math.MaxInt}, api.Vector{Band: math.MinInt}},
		{api.Vector{Band: math.MaxInt}, api.Vector{Band: math.MaxInt - 1}, api.Vector{Band: math.MaxInt - 1}},
		{api.Vector{Band: math.MaxInt}, api.Vector{Band: math.MaxInt}, api.Vector{Band: math.MaxInt}},
		// Delay: below its most, just at it, beyond it
		{api.Vector{Delay: 1 << 23}, api.Vector{Delay: 1<<23 - 1}, api.Vector{Delay: mostDelay - 1}},
		{api.Vector{Delay: 1 << 23}, api.Vector{Delay: 1 << 23}, api.Vector{Delay: mostDelay}},
		{api.Vector{Delay: 1 << 23}, api.Vector{Delay: 1<<23 + 1}, api.Vector{Delay: mostDelay}},
		{api.Vector{Delay: mostDelay - 1}, api.Vector{Delay: 1}, api.Vector{Delay: mostDelay}},
		{api.Vector{Delay: mostDelay}, api.Vector{Delay: 0}, api.Vector{Delay: mostDelay}},
		{api.Vector{Delay: mostDelay + 1}, api.Vector{Delay: 0}, api.Vector{Delay: mostDelay}},
		{api.Vector{Delay: mostDelay}, api.Vector{Delay: mostDelay}, api.Vector{Delay: mostDelay}},
		{api.Vector{Delay: math.MaxInt}, api.Vector{Delay: math.MaxInt}, api.Vector{Delay: mostDelay}},
		{api.Vector{Delay: math.MaxInt}, api.Vector{Delay: 1}, api.Vector{Delay: mostDelay}},
		{api.Vector{Delay: math.MaxInt}, api.Vector{Delay: math.MinInt}, api.Vector{Delay: mostDelay}},
		{api.Vector{Delay: math.MinInt}, api.Vector{Delay: math.MinInt}, api.Vector{Delay: 0}},
		{api.Vector{Delay: math.MinInt}, api.Vector{Delay: 12345}, api.Vector{Delay: 12345}},
		{api.Vector{Delay: -5}, api.Vector{Delay: 7}, api.Vector{Delay: 7}},
		{api.Vector{Delay: -5}, api.Vector{Delay: mostDelay + 3}, api.Vector{Delay: mostDelay}},
		{api.Vector{Delay: 1 << 53}, api.Vector{Delay: 1}, api.Vector{Delay: mostDelay}},
		// Hops: likewise
		{api.Vector{Hops: 50}, api.Vector{Hops: 49}, api.Vector{Hops: 99}},
		{api.Vector{Hops: 50}, api.Vector{Hops: 50}, api.Vector{Hops: 100}},
		{api.Vector{Hops: 50}, api.Vector{Hops: 51}, api.Vector{Hops: 100}},
		{api.Vector{Hops: 99}, api.Vector{Hops: 1}, api.Vector{Hops: 100}},
		{api.Vector{Hops: 100}, api.Vector{Hops: 0}, api.Vector{Hops: 100}},
		{api.Vector{Hops: 101}, api.Vector{Hops: 0}, api.Vector{Hops: 100}},
		{api.Vector{Hops: math.MaxInt}, api.Vector{Hops: math.MaxInt}, api.Vector{Hops: 100}},
		{api.Vector{Hops: math.MaxInt}, api.Vector{Hops: math.MinInt}, api.Vector{Hops: 100}},
		{api.Vector{Hops: math.MinInt}, api.Vector{Hops: math.MinInt}, api.Vector{Hops: 0}},
		{api.Vector{Hops: math.MinInt}, api.Vector{Hops: 42}, api.Vector{Hops: 42}},
		{api.Vector{Hops: -5}, api.Vector{Hops: 7}, api.Vector{Hops: 7}},
		{api.Vector{Hops: -5}, api.Vector{Hops: 103}, api.Vector{Hops: 100}},
		// one number beyond its most leaves the others alone
		{api.Vector{Band: 5, Delay: math.MaxInt, Hops: 3}, api.Vector{Band: 6, Delay: 1, Hops: 4}, api.Vector{Band: 5, Delay: mostDelay, Hops: 7}},
		{api.Vector{Band: 5, Delay: 3, Hops: math.MaxInt}, api.Vector{Band: 6, Delay: 4, Hops: 1}, api.Vector{Band: 5, Delay: 7, Hops: 100}},
		{api.Vector{Band: 1, Delay: mostDelay - 5, Hops: 99}, api.Vector{Band: 10, Delay: 10, Hops: 3}, api.Vector{Band: 1, Delay: mostDelay, Hops: 100}},
	} {
		if got := Join(c.v, c.link); got != c.want {
			t.Errorf("Join(%+v, %+v) = %+v, want %+v", c.v, c.link, got, c.want)
		}
		if got := Join(c.link, c.v); got != c.want {
			t.Errorf("Join(%+v, %+v) = %+v, want %+v", c.link, c.v, got, c.want)
		}
	}
}

// P4.2: Join, of every vector of numbers at the edges with some links.
func TestJoinAll(t *testing.T) {
	var links []api.Vector
	for i := range max(len(bands), len(delays), len(hopses)) {
		for _, turn := range []int{0, 1, 5} {
			links = append(links, api.Vector{Band: bands[i%len(bands)], Delay: delays[(i+turn)%len(delays)], Hops: hopses[(i+2*turn)%len(hopses)]})
		}
	}
	everyVector(func(v api.Vector) {
		for _, link := range links {
			if got, want := Join(v, link), slowJoin(v, link); got != want {
				t.Fatalf("Join(%+v, %+v) = %+v, want %+v", v, link, got, want)
			}
		}
	})
}

// P4.2: Join, of every two Hops that may be, with Delays all over their range.
func TestJoinSums(t *testing.T) {
	for a := range mostHops + 2 {
		for b := range mostHops + 2 {
			v := api.Vector{Band: a + 1, Delay: a * 83055, Hops: a}
			link := api.Vector{Band: b + 1, Delay: b*83047 + 1, Hops: b}
			if got, want := Join(v, link), slowJoin(v, link); got != want {
				t.Fatalf("Join(%+v, %+v) = %+v, want %+v", v, link, got, want)
			}
		}
	}
}

// P4.3: Of, by hand.
func TestOf(t *testing.T) {
	for _, c := range []struct {
		v    api.Vector
		want int
	}{
		{api.Vector{Band: 1000, Delay: 10, Hops: 1}, 2562560},
		{api.Vector{Band: 100, Delay: 30, Hops: 2}, 25607680},
		// Hops play no part, while it is reached
		{api.Vector{Band: 1000, Delay: 10, Hops: 0}, 2562560},
		{api.Vector{Band: 1000, Delay: 10, Hops: 99}, 2562560},
		{api.Vector{Band: 1000, Delay: 10, Hops: 100}, inf},
		// the least and the greatest Band
		{api.Vector{Band: mostBand}, 256},
		{api.Vector{Band: mostBand, Delay: 1}, 512},
		{api.Vector{Band: 1}, 2560000000},
		{api.Vector{Band: 1, Delay: 10}, 2560002560},
		// 10^7 is not divided evenly: rounded down, ahead of the product
		{api.Vector{Band: 3}, 256 * 3333333},
		{api.Vector{Band: 6}, 256 * 1666666},
		{api.Vector{Band: 7, Delay: 5}, 256 * (1428571 + 5)},
		{api.Vector{Band: 4999999}, 512},
		{api.Vector{Band: 5000000}, 512},
		{api.Vector{Band: 5000001}, 256},
		{api.Vector{Band: mostBand - 1}, 256},
		// just below the greatest answer, at it and beyond it
		{api.Vector{Band: mostBand, Delay: mostDelay - 3}, 4294966784},
		{api.Vector{Band: mostBand, Delay: mostDelay - 2}, 4294967040},
		{api.Vector{Band: mostBand, Delay: mostDelay - 1}, 4294967294},
		{api.Vector{Band: 1, Delay: 6777215}, 4294967040},
		{api.Vector{Band: 1, Delay: 6777216}, 4294967294},
		{api.Vector{Band: 1, Delay: 6777217}, 4294967294},
		{api.Vector{Band: 1, Delay: mostDelay - 1, Hops: 99}, 4294967294},
		// what is not reached
		{api.Vector{}, inf},
		{api.Vector{Band: mostBand, Delay: mostDelay}, inf},
		{api.Vector{Band: mostBand, Delay: mostDelay + 1}, inf},
		{api.Vector{Band: mostBand, Delay: -1}, inf},
		{api.Vector{Band: mostBand, Hops: -1}, inf},
		{api.Vector{Band: mostBand, Hops: 101}, inf},
		{api.Vector{Band: mostBand + 1}, inf},
		{api.Vector{Band: 0, Delay: 1, Hops: 1}, inf},
		{api.Vector{Band: -1, Delay: 1, Hops: 1}, inf},
		{api.Vector{Band: math.MinInt, Delay: math.MinInt, Hops: math.MinInt}, inf},
		{api.Vector{Band: math.MaxInt, Delay: math.MaxInt, Hops: math.MaxInt}, inf},
	} {
		if got := Of(c.v); got != c.want {
			t.Errorf("Of(%+v) = %d, want %d", c.v, got, c.want)
		}
	}
}

// P4.3: Of, of every vector of numbers at the edges, and of many Bands and Delays.
func TestOfAll(t *testing.T) {
	check := func(v api.Vector) {
		if got, want := Of(v), slowOf(v); got != want {
			t.Fatalf("Of(%+v) = %d, want %d", v, got, want)
		}
		if got := Of(v) == inf; got == Reached(v) {
			t.Fatalf("Of(%+v) = %d, Reached %v", v, Of(v), Reached(v))
		}
	}
	everyVector(check)
	for band := range 5000 {
		check(api.Vector{Band: band, Delay: band * 3361, Hops: band % 102})
		check(api.Vector{Band: mostBand - 2500 + band, Delay: mostDelay - 2500 + band})
		check(api.Vector{Band: 1, Delay: 6777216 - 2500 + band})
	}
}

// P4.3: Better, by hand, in either order.
func TestBetter(t *testing.T) {
	for _, c := range []struct {
		a, b     api.Vector
		ab, back bool
	}{
		// different answers
		{api.Vector{Band: 1000, Delay: 10, Hops: 1}, api.Vector{Band: 100, Delay: 10, Hops: 1}, true, false},
		{api.Vector{Band: 1000, Delay: 10, Hops: 1}, api.Vector{Band: 1000, Delay: 11, Hops: 1}, true, false},
		// the answer goes ahead of Hops
		{api.Vector{Band: 1000, Delay: 10, Hops: 50}, api.Vector{Band: 1000, Delay: 11, Hops: 1}, true, false},
		// the same answer, and different Hops
		{api.Vector{Band: 1000, Delay: 10, Hops: 1}, api.Vector{Band: 1000, Delay: 10, Hops: 2}, true, false},
		{api.Vector{Band: 1000, Delay: 10, Hops: 0}, api.Vector{Band: 1000, Delay: 10, Hops: 99}, true, false},
		// the same answer of different Bands and Delays
		{api.Vector{Band: 100000, Delay: 100, Hops: 3}, api.Vector{Band: 50000, Delay: 0, Hops: 2}, false, true},
		{api.Vector{Band: 100000, Delay: 100, Hops: 3}, api.Vector{Band: 50000, Delay: 0, Hops: 3}, false, false},
		{api.Vector{Band: 5000001, Delay: 3, Hops: 1}, api.Vector{Band: mostBand, Delay: 3, Hops: 2}, true, false},
		// the greatest answer of what is reached
		{api.Vector{Band: 1, Delay: mostDelay - 1, Hops: 4}, api.Vector{Band: 1, Delay: 6777216, Hops: 5}, true, false},
		{api.Vector{Band: 1, Delay: mostDelay - 1, Hops: 5}, api.Vector{Band: 1, Delay: 6777216, Hops: 5}, false, false},
		// one with itself
		{api.Vector{Band: 1000, Delay: 10, Hops: 1}, api.Vector{Band: 1000, Delay: 10, Hops: 1}, false, false},
		{api.Vector{}, api.Vector{}, false, false},
		{api.Vector{Band: 1, Delay: mostDelay, Hops: 100}, api.Vector{Band: 1, Delay: mostDelay, Hops: 100}, false, false},
		// one that is not reached
		{api.Vector{Band: 1, Delay: mostDelay - 1, Hops: 99}, api.Vector{}, true, false},
		{api.Vector{Band: 1, Delay: mostDelay - 1, Hops: 99}, api.Vector{Band: mostBand, Delay: mostDelay}, true, false},
		{api.Vector{Band: 1, Delay: mostDelay - 1, Hops: 99}, api.Vector{Band: mostBand, Hops: -1}, true, false},
		// two that are not: the same answer, so Hops tell
		{api.Vector{Band: mostBand, Delay: mostDelay, Hops: 3}, api.Vector{Band: 1, Delay: mostDelay, Hops: 4}, true, false},
		{api.Vector{Band: 0, Delay: 9, Hops: 3}, api.Vector{Band: mostBand, Delay: mostDelay, Hops: 3}, false, false},
		{api.Vector{Band: 1, Hops: 100}, api.Vector{Band: 1, Hops: 101}, true, false},
		{api.Vector{Hops: -1}, api.Vector{Hops: 0}, true, false},
		{api.Vector{Hops: math.MinInt}, api.Vector{Hops: math.MaxInt}, true, false},
	} {
		if got := Better(c.a, c.b); got != c.ab {
			t.Errorf("Better(%+v, %+v) = %v, want %v", c.a, c.b, got, c.ab)
		}
		if got := Better(c.b, c.a); got != c.back {
			t.Errorf("Better(%+v, %+v) = %v, want %v", c.b, c.a, got, c.back)
		}
	}
}

// P4.3: Better, of every vector of numbers at the edges and some others; of two never both are.
func TestBetterAll(t *testing.T) {
	others := []api.Vector{
		{},
		{Band: 1000, Delay: 10, Hops: 1},
		{Band: mostBand},
		{Band: mostBand, Delay: 1, Hops: 50},
		{Band: 5000001, Hops: 51},
		{Band: 1, Delay: mostDelay - 1, Hops: 99},
		{Band: mostBand, Delay: mostDelay - 1, Hops: 1},
		{Band: 1, Delay: mostDelay, Hops: 100},
		{Band: -1, Delay: -1, Hops: -1},
		{Band: math.MaxInt, Delay: math.MaxInt, Hops: math.MaxInt},
	}
	everyVector(func(v api.Vector) {
		for _, other := range append(others, v) {
			if got, want := Better(v, other), slowBetter(v, other); got != want {
				t.Fatalf("Better(%+v, %+v) = %v, want %v", v, other, got, want)
			}
			if Better(v, other) && Better(other, v) {
				t.Fatalf("%+v and %+v are better than each other", v, other)
			}
		}
	})
}

// P4.4: Hops and Cost, by hand, in either order.
func TestHopsAndCost(t *testing.T) {
	for _, c := range []struct{ n, link, hops, cost int }{
		{0, 0, 0, 0},
		{0, 1, 1, 1},
		{3, 2, 5, 5},
		{14, 1, 15, 15},
		{15, 1, 16, 16},
		{15, 2, 16, 17},
		{16, 0, 16, 16},
		{17, 0, 16, 17},
		{16, 16, 16, 32},
		{1, 96, 16, 97},
		{65000, 534, 16, 65534},
		{65000, 535, 16, 65535},
		{65000, 536, 16, 65535},
		{65535, 0, 16, 65535},
		{65536, 0, 16, 65535},
		{65535, 65535, 16, 65535},
		// below 0
		{-1, 5, 5, 5},
		{-1, -1, 0, 0},
		{-5, 15, 15, 15},
		{-1, 17, 16, 17},
		{-1, 65536, 16, 65535},
		// as small and as great as an int may be
		{math.MinInt, math.MinInt, 0, 0},
		{math.MinInt, 7, 7, 7},
		{math.MinInt, math.MaxInt, 16, 65535},
		{math.MaxInt, 0, 16, 65535},
		{math.MaxInt, 1, 16, 65535},
		{math.MaxInt, math.MaxInt, 16, 65535},
		{1 << 32, 1 << 32, 16, 65535},
	} {
		if a, b := Hops(c.n, c.link), Hops(c.link, c.n); a != c.hops || b != c.hops {
			t.Errorf("Hops(%d, %d) = %d, back %d, want %d", c.n, c.link, a, b, c.hops)
		}
		if a, b := Cost(c.n, c.link), Cost(c.link, c.n); a != c.cost || b != c.cost {
			t.Errorf("Cost(%d, %d) = %d, back %d, want %d", c.n, c.link, a, b, c.cost)
		}
	}
}

// P4.4: Hops and Cost, of many numbers around their most.
func TestHopsAndCostAll(t *testing.T) {
	for a := -3; a < 40; a++ {
		for b := -3; b < 40; b++ {
			if got, want := Hops(a, b), slowAdd(a, b, 16); got != want {
				t.Fatalf("Hops(%d, %d) = %d, want %d", a, b, got, want)
			}
			far, near := 65500+a, b+20
			if got, want := Cost(far, near), slowAdd(far, near, 65535); got != want {
				t.Fatalf("Cost(%d, %d) = %d, want %d", far, near, got, want)
			}
		}
	}
}

// P4.5: a link never makes a path better that may be, whatever the link has; what was not reached is not.
func TestLinkNeverBetters(t *testing.T) {
	var paths []api.Vector
	everyVector(func(v api.Vector) {
		if May(v) {
			paths = append(paths, v)
		}
	})
	everyVector(func(link api.Vector) {
		for _, path := range paths {
			joined := Join(path, link)
			if Of(joined) < Of(path) || Better(joined, path) {
				t.Fatalf("Of(Join(%+v, %+v)) = %d, Of the path %d", path, link, Of(joined), Of(path))
			}
			if Reached(joined) && !Reached(path) {
				t.Fatalf("Join(%+v, %+v) = %+v is reached", path, link, joined)
			}
			if May(link) && !May(joined) {
				t.Fatalf("Join(%+v, %+v) = %+v may not be", path, link, joined)
			}
		}
	})
}

// P4.5: what was not reached, joined by hand.
func TestNotReachedStays(t *testing.T) {
	link := api.Vector{Band: mostBand, Delay: 1, Hops: 1}
	for _, path := range []api.Vector{
		{},
		{Band: mostBand, Delay: mostDelay, Hops: 1},
		{Band: mostBand, Delay: mostDelay + 1, Hops: 1},
		{Band: mostBand, Delay: math.MaxInt, Hops: 1},
		{Band: mostBand, Delay: 1, Hops: 100},
		{Band: mostBand, Delay: 1, Hops: 101},
		{Band: mostBand, Delay: 1, Hops: math.MaxInt},
		{Band: 0, Delay: 1, Hops: 1},
		{Band: -1, Delay: 1, Hops: 1},
		{Band: math.MinInt, Delay: 1, Hops: 1},
	} {
		for _, v := range []api.Vector{Join(path, link), Join(link, path), Join(Join(path, link), link)} {
			if Reached(v) || Of(v) != inf {
				t.Errorf("%+v was not reached, joined %+v is: %d", path, v, Of(v))
			}
		}
	}
}

// P4.2 holds of what may not be, too: a Band beyond its most, a Delay and Hops below 0 are joined as any others.
func TestJoinOfWhatMayNotBe(t *testing.T) {
	link := api.Vector{Band: 100, Delay: 20, Hops: 1}
	for _, c := range []struct{ v, want api.Vector }{
		{api.Vector{Band: mostBand + 1, Delay: 10, Hops: 1}, api.Vector{Band: 100, Delay: 30, Hops: 2}},
		{api.Vector{Band: 1000, Delay: -10, Hops: 1}, api.Vector{Band: 100, Delay: 20, Hops: 2}},
		{api.Vector{Band: 1000, Delay: 10, Hops: -1}, api.Vector{Band: 100, Delay: 30, Hops: 1}},
	} {
		if got := Join(c.v, link); May(c.v) || got != c.want || !Reached(got) {
			t.Errorf("Join(%+v, %+v) = %+v, want %+v", c.v, link, got, c.want)
		}
	}
}

// P4.5: the order of links plays no part, whatever they have.
func TestOrderOfLinks(t *testing.T) {
	var links []api.Vector
	for i := range 60 {
		links = append(links, api.Vector{Band: bands[i*5%len(bands)], Delay: delays[i*7%len(delays)], Hops: hopses[i*3%len(hopses)]})
	}
	links = append(links,
		api.Vector{Band: 1000, Delay: 10, Hops: 1},
		api.Vector{Band: 100, Delay: mostDelay - 15, Hops: 98},
		api.Vector{Band: 10, Delay: 6, Hops: 2})
	for _, v := range links {
		for _, a := range links {
			for _, b := range links {
				one, other := Join(Join(v, a), b), Join(Join(v, b), a)
				if one != other || one != Join(v, Join(a, b)) || Of(one) != Of(other) {
					t.Fatalf("%+v with %+v and %+v: %+v, in the other order %+v", v, a, b, one, other)
				}
			}
		}
	}
}

// The chapter's examples.
func TestExamples(t *testing.T) {
	v := api.Vector{Band: 1000, Delay: 10, Hops: 1}
	if got := Of(v); got != 2562560 {
		t.Errorf("Of(%+v) = %d, want 2562560", v, got)
	}
	want := api.Vector{Band: 100, Delay: 30, Hops: 2}
	if got := Join(v, api.Vector{Band: 100, Delay: 20, Hops: 1}); got != want {
		t.Errorf("Join = %+v, want %+v", got, want)
	}
}

// R5: nothing hangs on what was asked before.
func TestAskedTwice(t *testing.T) {
	v, link := api.Vector{Band: 1000, Delay: 10, Hops: 1}, api.Vector{Band: 100, Delay: 20, Hops: 1}
	for range 3 {
		joined := Join(v, link)
		if joined != (api.Vector{Band: 100, Delay: 30, Hops: 2}) || Of(joined) != 25607680 || Of(api.Vector{}) != inf {
			t.Errorf("Join = %+v, Of %d", joined, Of(joined))
		}
		if !May(v) || !Reached(v) || May(api.Vector{}) || !Better(v, joined) || Better(joined, v) {
			t.Error("another answer than before")
		}
		if Hops(15, 1) != 16 || Hops(3, 2) != 5 || Cost(65000, 600) != 65535 || Cost(1, 96) != 97 {
			t.Error("another sum than before")
		}
	}
}

// P1, R1, R7: no call panics, at any argument, and all keep to their promises.
func FuzzCalls(f *testing.F) {
	f.Add(1000, 10, 1, 100, 20, 1)
	f.Add(1, mostDelay-5, 99, 10, 10, 3)
	f.Add(0, -1, -1, mostBand+1, mostDelay+1, 101)
	f.Add(math.MinInt, math.MaxInt, math.MinInt, math.MaxInt, math.MinInt, math.MaxInt)
	f.Add(math.MaxInt, math.MaxInt, math.MaxInt, math.MaxInt, math.MaxInt, math.MaxInt)
	f.Fuzz(func(t *testing.T, band, delay, hops, linkBand, linkDelay, linkHops int) {
		v := api.Vector{Band: band, Delay: delay, Hops: hops}
		link := api.Vector{Band: linkBand, Delay: linkDelay, Hops: linkHops}
		if got, want := Join(v, link), slowJoin(v, link); got != want {
			t.Errorf("Join(%+v, %+v) = %+v, want %+v", v, link, got, want)
		}
		for _, v := range []api.Vector{v, link, Join(v, link)} {
			if May(v) != slowMay(v) || Reached(v) != slowReached(v) || Of(v) != slowOf(v) {
				t.Errorf("%+v: May %v, Reached %v, Of %d", v, May(v), Reached(v), Of(v))
			}
		}
		if Better(v, link) != slowBetter(v, link) || Better(link, v) != slowBetter(link, v) {
			t.Errorf("Better(%+v, %+v) = %v, back %v", v, link, Better(v, link), Better(link, v))
		}
		if Hops(hops, linkHops) != slowAdd(hops, linkHops, 16) || Cost(delay, linkDelay) != slowAdd(delay, linkDelay, 65535) {
			t.Errorf("Hops(%d, %d) = %d, Cost(%d, %d) = %d", hops, linkHops, Hops(hops, linkHops), delay, linkDelay, Cost(delay, linkDelay))
		}
	})
}
