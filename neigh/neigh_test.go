package neigh

import (
	"math"
	"slices"
	"testing"

	"octroi/api"
)

// nexts are numbers that may be expected, several of them so near to the place where they go round that a hello ahead of them or behind them lies on the other side of it.
var nexts = []uint16{0, 1, 2, 3, 8, 14, 15, 16, 17, 18, 100, 32766, 32767, 32768, 32769, 65518, 65519, 65520, 65521, 65533, 65534, 65535}

// histories are such as tell by their bits where each of these has gone.
var histories = []uint16{0, 1, 0x8000, 0x8001, 0x7fff, 0xfffe, 0xffff, 0xa5c3, 0x5a3c, 0x1234, 0xc000, 0x6000, 0x2000}

// slow is a neighbour without shifted bits: a list, and numbers that are taken modulo 2^16.
type slow struct {
	bits    [16]bool
	expects bool
	next    int
	told    int
}

func newSlow() *slow {
	return &slow{told: 65535}
}

// in lets a bit come in, as the first one.
func (s *slow) in(bit bool) {
	for i := 15; i > 0; i-- {
		s.bits[i] = s.bits[i-1]
	}
	s.bits[0] = bit
}

func (s *slow) hello(seq int) {
	ahead, behind := (seq-s.next+65536)%65536, (s.next-seq+65536)%65536
	switch {
	case !s.expects || ahead >= 17 && behind >= 17:
		s.bits = [16]bool{}
	case ahead < 17:
		for range ahead {
			s.in(false)
		}
	default:
		var rest [16]bool
		copy(rest[:], s.bits[behind:])
		s.bits = rest
	}
	s.in(true)
	s.next, s.expects = (seq+1)%65536, true
}

func (s *slow) miss() {
	if s.expects {
		s.in(false)
		s.next = (s.next + 1) % 65536
	}
}

func (s *slow) ihu(cost int) {
	switch {
	case cost < 0:
		s.told = 0
	case cost > 65535:
		s.told = 65535
	default:
		s.told = cost
	}
}

func (s *slow) history() uint16 {
	var history uint16
	for _, bit := range s.bits {
		history *= 2
		if bit {
			history++
		}
	}
	return history
}

func (s *slow) rx() int {
	count := 0
	for _, bit := range s.bits[:3] {
		if bit {
			count++
		}
	}
	if count < 2 {
		return 65535
	}
	return 96
}

func (s *slow) cost() int {
	switch {
	case s.rx() == 65535 || s.told == 65535:
		return 65535
	case s.told > 96:
		return s.told
	}
	return 96
}

// both is a neighbour, and the list that it is held against.
type both struct {
	t    *testing.T
	fast *Neigh
	slow *slow
}

func newBoth(t *testing.T) *both {
	t.Helper()
	b := &both{t, New(), newSlow()}
	b.check("New()")
	return b
}

// of is one with a history and a number that is expected, made by hellos and misses alone.
func of(history, next uint16) *Neigh {
	n := New()
	n.Hello(next - 17)
	for i := range 16 {
		if history>>i&1 == 1 {
			n.Hello(next - 16 + uint16(i))
		} else {
			n.Miss()
		}
	}
	return n
}

func bothOf(t *testing.T, history, next uint16) *both {
	t.Helper()
	b := &both{t, of(history, next), newSlow()}
	for i := range b.slow.bits {
		b.slow.bits[i] = history>>(15-i)&1 == 1
	}
	b.slow.expects, b.slow.next = true, int(next)
	b.check("made")
	return b
}

// copied is the same again, so that what is asked of it changes nothing of the first.
func (b *both) copied() *both {
	fast, slow := *b.fast, *b.slow
	return &both{b.t, &fast, &slow}
}

func (b *both) hello(seq uint16) {
	b.t.Helper()
	b.fast.Hello(seq)
	b.slow.hello(int(seq))
	b.check("Hello")
}

func (b *both) miss() {
	b.t.Helper()
	b.fast.Miss()
	b.slow.miss()
	b.check("Miss")
}

func (b *both) ihu(cost int) {
	b.t.Helper()
	b.fast.Ihu(cost)
	b.slow.ihu(cost)
	b.check("Ihu")
}

// check holds all that a neighbour tells.
func (b *both) check(behind string) {
	b.t.Helper()
	if got, want := b.fast.History(), b.slow.history(); got != want {
		b.t.Fatalf("History() behind %s = %#04x, want %#04x", behind, got, want)
	}
	if got, want := b.fast.Rx(), b.slow.rx(); got != want {
		b.t.Fatalf("Rx() behind %s = %d, want %d", behind, got, want)
	}
	if got, want := b.fast.Cost(), b.slow.cost(); got != want {
		b.t.Fatalf("Cost() behind %s = %d, want %d", behind, got, want)
	}
}

// checkNext holds what is expected, by the hellos and the misses that come next.
func (b *both) checkNext() {
	b.t.Helper()
	next := uint16(b.slow.next)
	for _, d := range []uint16{0, 1, 2, 14, 15, 16, 17} {
		x := b.copied()
		x.hello(next + d)
		x.hello(next + d + 1)
		x = b.copied()
		x.hello(next - d)
		x.hello(next - d + 2)
		x = b.copied()
		x.miss()
		x.hello(next + 1 + d)
		x.miss()
		x.hello(next - d)
	}
}

// chance is numbers that follow no short rule, the same ones each time.
type chance uint64

func (c *chance) next(below int) int {
	*c = *c*6364136223846793005 + 1442695040888963407
	return int(uint64(*c)>>33) % below
}

// some is one of a list.
func some[T any](c *chance, l []T) T {
	return l[c.next(len(l))]
}

func wantHistory(t *testing.T, n *Neigh, want uint16) {
	t.Helper()
	if got := n.History(); got != want {
		t.Errorf("History() = %#04x, want %#04x", got, want)
	}
}

func wantRx(t *testing.T, n *Neigh, want int) {
	t.Helper()
	if got := n.Rx(); got != want {
		t.Errorf("Rx() = %d, want %d", got, want)
	}
}

func wantCost(t *testing.T, n *Neigh, want int) {
	t.Helper()
	if got := n.Cost(); got != want {
		t.Errorf("Cost() = %d, want %d", got, want)
	}
}

// wantNext holds that a hello is expected: it brings a 1 in, and no other bit.
func wantNext(t *testing.T, n *Neigh, want uint16) {
	t.Helper()
	x := *n
	x.Hello(want)
	if got := x.History(); got != n.History()/2+0x8000 {
		t.Errorf("the hello %d brings %#04x to %#04x: it is not the one that is expected", want, n.History(), got)
	}
}

// P11.1: in a new one no hello came, and the other one has told nothing.
func TestNew(t *testing.T) {
	n := New()
	wantHistory(t, n, 0)
	wantRx(t, n, 65535)
	wantCost(t, n, 65535)
	n.Hello(1)
	n.Hello(2)
	wantRx(t, n, 96)
	wantCost(t, n, 65535)
}

// P11.1, P11.3: nothing is expected yet, so that a miss changes nothing, of what the other one has told neither.
func TestMissAheadOfAll(t *testing.T) {
	for _, misses := range []int{1, 2, 16, 17, 500} {
		for _, seq := range nexts {
			b := newBoth(t)
			for range misses {
				b.miss()
			}
			wantHistory(t, b.fast, 0)
			wantRx(t, b.fast, 65535)
			wantCost(t, b.fast, 65535)
			b.ihu(300)
			b.miss()
			b.hello(seq)
			wantHistory(t, b.fast, 0x8000)
			wantNext(t, b.fast, seq+1)
			b.checkNext()
			b.hello(seq + 1)
			wantCost(t, b.fast, 300)
		}
	}
}

// P11.2: a first hello of any number.
func TestFirstHello(t *testing.T) {
	for seq := range 65536 {
		n := New()
		n.Hello(uint16(seq))
		wantHistory(t, n, 0x8000)
		wantRx(t, n, 65535)
		wantNext(t, n, uint16(seq+1))
	}
	for _, seq := range nexts {
		b := newBoth(t)
		b.hello(seq)
		b.checkNext()
	}
}

// moves are how far hellos are from the one that is expected, and what they leave of four histories.
var moves = []struct {
	ahead                   int
	full, mixed, other, one uint16 // of 0xffff, 0xa5c3, 0x5a3c, 1
}{
	{0, 0xffff, 0xd2e1, 0xad1e, 0x8000},
	{1, 0xbfff, 0xa970, 0x968f, 0x8000},
	{2, 0x9fff, 0x94b8, 0x8b47, 0x8000},
	{3, 0x8fff, 0x8a5c, 0x85a3, 0x8000},
	{13, 0x8003, 0x8002, 0x8001, 0x8000},
	{14, 0x8001, 0x8001, 0x8000, 0x8000},
	{15, 0x8000, 0x8000, 0x8000, 0x8000},
	{16, 0x8000, 0x8000, 0x8000, 0x8000},
	{17, 0x8000, 0x8000, 0x8000, 0x8000},
	{18, 0x8000, 0x8000, 0x8000, 0x8000},
	{32, 0x8000, 0x8000, 0x8000, 0x8000},
	{32767, 0x8000, 0x8000, 0x8000, 0x8000},
	{32768, 0x8000, 0x8000, 0x8000, 0x8000},
	{-1, 0xffff, 0xa5c3, 0xda3c, 0x8001},
	{-2, 0xfffe, 0xcb86, 0xb478, 0x8002},
	{-3, 0xfffc, 0x970c, 0xe8f0, 0x8004},
	{-13, 0xf000, 0xb000, 0xc000, 0x9000},
	{-14, 0xe000, 0xe000, 0x8000, 0xa000},
	{-15, 0xc000, 0xc000, 0x8000, 0xc000},
	{-16, 0x8000, 0x8000, 0x8000, 0x8000},
	{-17, 0x8000, 0x8000, 0x8000, 0x8000},
	{-18, 0x8000, 0x8000, 0x8000, 0x8000},
	{-32, 0x8000, 0x8000, 0x8000, 0x8000},
	{-32767, 0x8000, 0x8000, 0x8000, 0x8000},
	{-32768, 0x8000, 0x8000, 0x8000, 0x8000},
}

// P11.2: hellos that are expected, ahead and behind, near and far, on either side of the place where numbers go round.
func TestHello(t *testing.T) {
	for _, next := range nexts {
		for _, m := range moves {
			seq := next + uint16(m.ahead)
			for _, x := range []struct{ history, want uint16 }{{0xffff, m.full}, {0xa5c3, m.mixed}, {0x5a3c, m.other}, {1, m.one}} {
				n := of(x.history, next)
				wantHistory(t, n, x.history)
				wantNext(t, n, next)
				n.Hello(seq)
				if got := n.History(); got != x.want {
					t.Errorf("%#04x, next %d: Hello(%d) leaves %#04x, want %#04x", x.history, next, seq, got, x.want)
				}
				wantNext(t, n, seq+1)
			}
		}
	}
}

// P11.2: what is expected behind each hello, by that or the miss which comes next.
func TestHelloNext(t *testing.T) {
	for _, next := range nexts {
		for _, history := range histories {
			for _, m := range moves {
				b := bothOf(t, history, next)
				b.hello(next + uint16(m.ahead))
				b.checkNext()
			}
		}
	}
}

// P11.2: all numbers.
func TestHelloAllNumbers(t *testing.T) {
	for _, next := range []uint16{0, 9, 32768, 65535} {
		for _, history := range []uint16{0xffff, 0xa5c3} {
			b := bothOf(t, history, next)
			for seq := range 65536 {
				x := b.copied()
				x.hello(uint16(seq))
				x.hello(uint16(seq + 2))
				x.hello(uint16(seq + 1))
			}
		}
	}
}

// P11.2: all histories, and hellos that are near.
func TestHelloAllHistories(t *testing.T) {
	for history := range 65536 {
		b := bothOf(t, uint16(history), 9)
		for _, d := range []int{0, 1, 2, 7, 14, 15, 16, 17} {
			x := b.copied()
			x.hello(9 + uint16(d))
			x = b.copied()
			x.hello(9 - uint16(d))
		}
	}
}

// P11.2: a hello that comes again later takes what came behind it.
func TestHelloAgainLater(t *testing.T) {
	for _, first := range nexts {
		n := New()
		for d := range uint16(5) {
			n.Hello(first + d)
		}
		wantHistory(t, n, 0xf800)
		n.Hello(first + 2)
		wantHistory(t, n, 0xe000)
		wantNext(t, n, first+3)
		n.Hello(first + 4)
		wantHistory(t, n, 0xb800)
		wantNext(t, n, first+5)
		n.Hello(first)
		wantHistory(t, n, 0x8000)
		wantNext(t, n, first+1)
	}
}

// P11.2: what lies between a hello and the one ahead of it that comes late is lost, and those that follow are told anew.
func TestHelloLate(t *testing.T) {
	b := newBoth(t)
	for _, x := range []struct{ seq, want uint16 }{
		{65533, 0x8000}, {65535, 0xa000}, {65534, 0xc000}, {0, 0xb000}, {1, 0xd800}, {1, 0xd800},
		{16, 0x8001}, {15, 0x8002}, {65535, 0x8000}, {0, 0xc000}, {18, 0x8000}, {17, 0x8000}, {18, 0xc000},
	} {
		b.hello(x.seq)
		wantHistory(t, b.fast, x.want)
		b.checkNext()
	}
}

// P11.3: each miss lets a 0 in and is as one hello less that is expected; sixteen leave nothing.
func TestMiss(t *testing.T) {
	for _, next := range nexts {
		for _, history := range histories {
			b := bothOf(t, history, next)
			for i := range 40 {
				b.miss()
				wantHistory(t, b.fast, history>>(i+1))
				wantNext(t, b.fast, next+uint16(i+1))
				b.checkNext()
			}
		}
	}
}

// P11.3: the hello behind some misses: the one that is then expected, those ahead of it and those behind it.
func TestHelloBehindMisses(t *testing.T) {
	for _, next := range []uint16{9, 0, 65535, 65534, 65533} {
		for _, x := range []struct {
			misses, ahead int
			want          uint16
		}{
			{1, 0, 0xbfff}, {1, 1, 0x9fff}, {1, -1, 0xffff}, {1, -2, 0xfffe}, {1, -3, 0xfffc}, {1, -16, 0x8000}, {1, -17, 0x8000}, {1, 16, 0x8000},
			{2, 0, 0x9fff}, {2, 1, 0x8fff}, {2, -1, 0xbfff}, {2, -2, 0xfffe}, {2, -3, 0xfffc}, {2, -4, 0xfff8}, {2, 13, 0x8000},
			{15, 0, 0x8000}, {15, -1, 0x8001}, {15, -2, 0x8002}, {15, -15, 0xc000}, {15, 1, 0x8000},
			{16, 0, 0x8000}, {16, 1, 0x8000}, {16, -1, 0x8000}, {16, -16, 0x8000}, {16, -17, 0x8000}, {17, 0, 0x8000}, {100, 0, 0x8000},
		} {
			n := of(0xffff, next)
			for range x.misses {
				n.Miss()
			}
			seq := next + uint16(x.misses+x.ahead)
			n.Hello(seq)
			if got := n.History(); got != x.want {
				t.Errorf("next %d, %d misses, Hello(%d): %#04x, want %#04x", next, x.misses, seq, got, x.want)
			}
			wantNext(t, n, seq+1)
		}
	}
}

// P11.3: the number that is expected goes round by misses alone.
func TestMissesGoRound(t *testing.T) {
	b := newBoth(t)
	b.hello(65533)
	b.hello(65534)
	b.miss()
	wantNext(t, b.fast, 0)
	b.miss()
	wantNext(t, b.fast, 1)
	b.hello(1)
	wantHistory(t, b.fast, 0x9800)
	for range 65536 {
		b.miss()
	}
	b.hello(2)
	b.hello(3)
	wantHistory(t, b.fast, 0xc000)
	b.checkNext()
}

// told are what may be told, and what is kept of it.
var told = []struct{ cost, kept int }{
	{math.MinInt, 0}, {math.MinInt + 1, 0}, {-1 << 32, 0}, {-65536, 0}, {-65535, 0}, {-1<<32 + 300, 0}, {-96, 0}, {-2, 0}, {-1, 0},
	{0, 0}, {1, 1}, {95, 95}, {96, 96}, {97, 97}, {255, 255}, {256, 256}, {300, 300}, {32767, 32767}, {32768, 32768}, {65533, 65533}, {65534, 65534}, {65535, 65535},
	{65536, 65535}, {65537, 65535}, {65536 + 300, 65535}, {1<<32 - 1, 65535}, {1 << 32, 65535}, {1<<32 + 300, 65535}, {math.MaxInt - 1, 65535}, {math.MaxInt, 65535},
}

// P11.3, P11.4: what is told, of all sizes, against what it costs to hear the other one.
func TestIhu(t *testing.T) {
	for _, x := range told {
		n := of(0xe000, 5)
		wantCost(t, n, 65535)
		n.Ihu(x.cost)
		wantRx(t, n, 96)
		wantHistory(t, n, 0xe000)
		wantNext(t, n, 5)
		wantCost(t, n, max(96, x.kept))
		lost := of(0x2000, 5)
		lost.Ihu(x.cost)
		wantRx(t, lost, 65535)
		wantCost(t, lost, 65535)
	}
}

// P11.3: what is told later stands in the place of what was told, be it more or less.
func TestIhuAgain(t *testing.T) {
	for _, x := range told {
		for _, y := range told {
			b := bothOf(t, 0xc000, 65535)
			b.ihu(x.cost)
			b.ihu(y.cost)
			wantCost(t, b.fast, max(96, y.kept))
		}
	}
}

// P11.3: what was told stays as it is, whatever comes, and may be told ahead of the first hello.
func TestIhuStays(t *testing.T) {
	for _, x := range told {
		b := newBoth(t)
		b.ihu(x.cost)
		wantHistory(t, b.fast, 0)
		wantRx(t, b.fast, 65535)
		wantCost(t, b.fast, 65535)
		b.hello(7)
		wantHistory(t, b.fast, 0x8000)
		wantCost(t, b.fast, 65535)
		b.hello(8)
		wantCost(t, b.fast, max(96, x.kept))
		for range 20 {
			b.miss()
		}
		wantCost(t, b.fast, 65535)
		b.hello(5000)
		wantCost(t, b.fast, 65535)
		b.hello(5001)
		wantCost(t, b.fast, max(96, x.kept))
	}
}

// P11.4: it is the first three bits that count, in each of the eight ways in which they may stand, whatever the others are.
func TestRx(t *testing.T) {
	want := [8]int{0: 65535, 1: 65535, 2: 65535, 3: 96, 4: 65535, 5: 96, 6: 96, 7: 96}
	for history := range 65536 {
		n := of(uint16(history), uint16(history*7))
		wantHistory(t, n, uint16(history))
		rx := want[history>>13]
		wantRx(t, n, rx)
		wantCost(t, n, 65535)
		for _, cost := range []int{0, 95, 96, 97, 65534, 65535} {
			n.Ihu(cost)
			wantRx(t, n, rx)
			wantCost(t, n, max(rx, cost))
		}
	}
}

// P11.4: the cost, with each kind of what was told, and with Rx at 65535.
func TestCost(t *testing.T) {
	for _, x := range []struct {
		history    uint16
		cost, want int
	}{
		{0x6000, -1, 96}, {0x6000, 0, 96}, {0x6000, 1, 96}, {0x6000, 95, 96}, {0x6000, 96, 96}, {0x6000, 97, 97}, {0x6000, 192, 192}, {0x6000, 65534, 65534}, {0x6000, 65535, 65535}, {0x6000, 65536, 65535},
		{0xa000, 0, 96}, {0xa000, 300, 300}, {0xc000, 10, 96}, {0xc000, 65534, 65534}, {0xe000, 97, 97}, {0xffff, 65535, 65535},
		{0x8000, 0, 65535}, {0x4000, 96, 65535}, {0x2000, 300, 65535}, {0x1fff, 0, 65535}, {0x9fff, 96, 65535}, {0x5fff, 65534, 65535}, {0x3fff, 65535, 65535},
	} {
		n := of(x.history, 3)
		wantCost(t, n, 65535)
		n.Ihu(x.cost)
		wantCost(t, n, x.want)
	}
}

// P11.5: behind any row of calls sixteen misses, and the link costs BabelInf.
func TestSixteenMisses(t *testing.T) {
	c := chance(1)
	for _, x := range told {
		for _, history := range histories {
			n := of(history, uint16(c.next(65536)))
			n.Ihu(x.cost)
			for range 16 {
				n.Miss()
			}
			wantHistory(t, n, 0)
			wantRx(t, n, 65535)
			wantCost(t, n, 65535)
		}
	}
	for range 2000 {
		b := row(t, &c)
		for range 16 {
			b.miss()
		}
		wantCost(t, b.fast, 65535)
		b.ihu(0)
		wantCost(t, b.fast, 65535)
	}
}

// P11.5: sixteen hellos are missed as well if the one that is then heard is ahead by sixteen.
func TestSixteenAhead(t *testing.T) {
	for _, next := range nexts {
		n := of(0xffff, next)
		n.Ihu(96)
		wantCost(t, n, 96)
		n.Hello(next + 16)
		wantHistory(t, n, 0x8000)
		wantCost(t, n, 65535)
	}
}

// P11.5: a hello twice, one behind the other, is as one, also a first one; thrice likewise.
func TestHelloTwice(t *testing.T) {
	c := chance(2)
	for round := range 4000 {
		b := newBoth(t)
		if round >= len(nexts) {
			b = row(t, &c)
		}
		seq := uint16(b.slow.next + c.next(50) - 25)
		if round%8 == 0 {
			seq = some(&c, nexts)
		}
		b.hello(seq)
		once := *b.fast
		for range 2 {
			b.hello(seq)
			if *b.fast != once {
				t.Fatalf("the hello %d twice leaves %v, once %v", seq, *b.fast, once)
			}
			wantNext(t, b.fast, seq+1)
		}
	}
	for history := range 65536 {
		for _, d := range []uint16{0, 1, 0xffff, 0xfffe, 0xfff0, 16, 17} {
			n := of(uint16(history), 3)
			n.Hello(3 + d)
			once := *n
			n.Hello(3 + d)
			if *n != once {
				t.Fatalf("%#04x: the hello %d twice leaves %v, once %v", history, 3+d, *n, once)
			}
		}
	}
}

// row is one behind a row of calls, all held against the list.
func row(t *testing.T, c *chance) *both {
	t.Helper()
	b := newBoth(t)
	for range c.next(60) {
		next := uint16(b.slow.next)
		switch c.next(12) {
		case 0:
			b.hello(uint16(c.next(65536)))
		case 1:
			b.hello(some(c, nexts))
		case 2:
			b.ihu(some(c, told).cost)
		case 3, 4:
			b.miss()
		case 5:
			b.hello(next + uint16(c.next(20)))
		case 6:
			b.hello(next - uint16(c.next(20)))
		case 7:
			b.hello(next - 1)
		default:
			b.hello(next)
		}
	}
	return b
}

// P11.1 to P11.5: many rows of calls.
func TestManyCalls(t *testing.T) {
	c := chance(3)
	costs := map[int]int{}
	for range 8000 {
		b := row(t, &c)
		b.checkNext()
		costs[min(b.fast.Cost(), 97)]++
	}
	if len(costs) != 2 || costs[96] < 100 || costs[97] < 100 {
		t.Errorf("the costs were %v: the rows are too easy", costs)
	}
}

// R5: to ask changes nothing, and one knows nothing of another one.
func TestApart(t *testing.T) {
	x, y := New(), New()
	x.Hello(5)
	y.Hello(900)
	y.Ihu(200)
	x.Hello(6)
	x.Ihu(100)
	y.Miss()
	y.Hello(902)
	z := New()
	for range 3 {
		wantHistory(t, x, 0xc000)
		wantRx(t, x, 96)
		wantCost(t, x, 100)
		wantNext(t, x, 7)
		wantHistory(t, y, 0xa000)
		wantRx(t, y, 96)
		wantCost(t, y, 200)
		wantNext(t, y, 903)
		wantHistory(t, z, 0)
		wantRx(t, z, 65535)
		wantCost(t, z, 65535)
	}
}

// The chapter's examples.
func TestExamples(t *testing.T) {
	n := New()
	n.Hello(5)
	n.Hello(6)
	n.Ihu(96)
	wantHistory(t, n, 0xc000)
	wantCost(t, n, 96)
	n.Miss()
	n.Miss()
	wantHistory(t, n, 0x3000)
	wantRx(t, n, api.BabelInf)
	wantCost(t, n, api.BabelInf)
}

// P1, R1: no call panics, at any argument, and all keep to their promises; the steps are three bytes each.
func FuzzCalls(f *testing.F) {
	f.Add([]byte{0, 0, 5, 0, 0, 6, 3, 0, 96, 2, 0, 0, 2, 0, 0}, uint16(7), 96)
	f.Add([]byte{0, 255, 255, 1, 128, 0, 1, 128, 1, 1, 127, 255}, uint16(0), -1)
	f.Add([]byte{2, 0, 0, 3, 255, 255}, uint16(65535), 65536)
	f.Add(slices.Repeat([]byte{1, 128, 0}, 20), uint16(32768), math.MinInt)
	f.Add(slices.Repeat([]byte{1, 128, 16}, 3), uint16(17), math.MaxInt)
	f.Fuzz(func(t *testing.T, steps []byte, seq uint16, cost int) {
		b := newBoth(t)
		for count := 0; len(steps) >= 3 && count < 200; count++ {
			kind, high, low := steps[0], steps[1], steps[2]
			steps = steps[3:]
			n := uint16(high)<<8 | uint16(low)
			switch kind % 4 {
			case 0:
				b.hello(n)
			case 1:
				b.hello(uint16(b.slow.next) + uint16(low) - uint16(high) + 128)
			case 2:
				b.miss()
			default:
				b.ihu(int(n) * 2)
			}
		}
		b.hello(seq)
		b.checkNext()
		b.ihu(cost)
		b.hello(seq + 1)
		b.checkNext()
		b.miss()
		b.miss()
		b.hello(seq)
	})
}
