package journal

import (
	"bytes"
	"math"
	"slices"
	"testing"

	"octroi/api"
)

// top is the greatest key and number.
const top = math.MaxUint32

// wrongKinds are kinds that may not be, several of them with a last byte of one that may; keys are such as differ by the order of their bytes, and numbers too.
var (
	wrongKinds = []int{-1, -2, -255, -256, -257, -1 << 32, math.MinInt, math.MinInt + 1, 256, 257, 511, 512, 1 << 16, 1 << 32, 1<<32 + 1, math.MaxInt - 1, math.MaxInt}
	keys       = []uint32{0, 1, 2, 255, 256, 257, 65535, 65536, 0x01020304, 0x04030201, 1<<31 - 1, 1 << 31, 1<<31 + 1, 0xfffffffe, top}
)

// keeps are numbers of bytes that a crash may be told to keep, ahead of all those that hang on how many there are.
var keeps = []int{math.MinInt, math.MinInt + 1, -1 << 32, -13, -12, -2, -1, 0, 1, 2, 11, 12, 13, 23, 24, 25, 1<<31 - 1, 1 << 32, math.MaxInt - 1, math.MaxInt}

// slow is a journal without a device and without a map: a list of facts, the first so many of which are kept.
type slow struct {
	room  int
	facts []api.Fact
	kept  int
}

func (s *slow) put(f api.Fact) api.Errno {
	switch {
	case f.Kind < 0 || f.Kind > 255:
		return api.ErrArg
	case len(s.facts) >= s.room:
		return api.ErrFull
	}
	s.facts = append(s.facts, f)
	return api.OK
}

func (s *slow) get(kind int, key uint32) (uint32, bool) {
	for i := len(s.facts) - 1; i >= 0; i-- {
		if f := s.facts[i]; f.Kind == kind && f.Key == key {
			return f.N, true
		}
	}
	return 0, false
}

// crash counts whole facts: twelve bytes more are one more.
func (s *slow) crash(keep int) {
	stay := 0
	if keep > 0 {
		stay = keep % (12*(len(s.facts)-s.kept) + 1)
	}
	s.facts = s.facts[:s.kept+stay/12]
	s.kept = len(s.facts)
}

func (s *slow) pack() {
	s.facts = lastOf(s.facts)
	s.kept = len(s.facts)
}

// lastOf are the last numbers of some facts, each put into its place in a list.
func lastOf(facts []api.Fact) []api.Fact {
	var out []api.Fact
	for _, f := range facts {
		at := 0
		for at < len(out) && (out[at].Kind < f.Kind || out[at].Kind == f.Kind && out[at].Key < f.Key) {
			at++
		}
		if at < len(out) && out[at].Kind == f.Kind && out[at].Key == f.Key {
			out[at].N = f.N
			continue
		}
		out = slices.Insert(out, at, f)
	}
	return out
}

// bytesOf are the bytes of facts, by divisions.
func bytesOf(facts ...api.Fact) []byte {
	var b []byte
	for _, f := range facts {
		b = append(b, byte(f.Kind), 0, 0, 0)
		for _, n := range []uint32{f.Key, f.N} {
			b = append(b, byte(n/(256*256*256)), byte(n/(256*256)%256), byte(n/256%256), byte(n%256))
		}
	}
	return b
}

// both is a journal, and the list that it is held against.
type both struct {
	t    *testing.T
	fast *Journal
	slow *slow
}

func newBoth(t *testing.T, room int, facts ...api.Fact) *both {
	t.Helper()
	b := &both{t, New(room), &slow{room: room}}
	b.check("New")
	for _, f := range facts {
		wantErrno(t, "Put", b.put(f), api.OK)
	}
	return b
}

func (b *both) put(f api.Fact) api.Errno {
	b.t.Helper()
	want := b.slow.put(f)
	if got := b.fast.Put(f); got != want {
		b.t.Fatalf("Put(%v) = %d, want %d", f, got, want)
	}
	b.check("Put")
	return want
}

func (b *both) sync() {
	b.t.Helper()
	b.fast.Sync()
	b.slow.kept = len(b.slow.facts)
	b.check("Sync")
}

func (b *both) crash(keep int) {
	b.t.Helper()
	b.fast.Crash(keep)
	b.slow.crash(keep)
	b.check("Crash")
}

func (b *both) pack() {
	b.t.Helper()
	b.fast.Pack()
	b.slow.pack()
	b.check("Pack")
}

// copied is the same again, so that what is done to it changes nothing of the first.
func (b *both) copied() *both {
	b.t.Helper()
	x := newBoth(b.t, b.slow.room, b.slow.facts[:b.slow.kept]...)
	x.sync()
	for _, f := range b.slow.facts[b.slow.kept:] {
		wantErrno(b.t, "Put", x.put(f), api.OK)
	}
	return x
}

// check holds all that a journal tells.
func (b *both) check(behind string) {
	b.t.Helper()
	if got := b.fast.Len(); got != len(b.slow.facts) {
		b.t.Fatalf("Len() behind %s = %d, want %d", behind, got, len(b.slow.facts))
	}
	if got, want := b.fast.Bytes(), bytesOf(b.slow.facts...); !bytes.Equal(got, want) {
		b.t.Fatalf("Bytes() behind %s = %v, want %v", behind, got, want)
	}
	want := lastOf(b.slow.facts)
	if got := b.fast.Facts(); !slices.Equal(got, want) {
		b.t.Fatalf("Facts() behind %s = %v, want %v", behind, got, want)
	}
	for _, f := range want {
		b.checkGet(f.Kind, f.Key)
		b.checkGet(f.Kind+1, f.Key)
		b.checkGet(f.Kind+256, f.Key)
		b.checkGet(f.Kind, f.Key+1)
		b.checkGet(int(f.Key), uint32(f.Kind))
	}
}

func (b *both) checkGet(kind int, key uint32) {
	b.t.Helper()
	want, is := b.slow.get(kind, key)
	if got, ok := b.fast.Get(kind, key); got != want || ok != is {
		b.t.Fatalf("Get(%d, %d) = %d, %v, want %d, %v", kind, key, got, ok, want, is)
	}
}

// checkKept holds which bytes are kept, by crashes of journals that are the same.
func (b *both) checkKept() {
	b.t.Helper()
	for keep := range 12*(len(b.slow.facts)-b.slow.kept) + 3 {
		b.copied().crash(keep)
	}
}

// chance is numbers that follow no short rule, the same ones each time.
type chance uint64

func (c *chance) next(below int) int {
	*c = *c*6364136223846793005 + 1442695040888963407
	return int(uint64(*c)>>33) % below
}

// some is one of a list, shuffled a copy of one in another order.
func some[T any](c *chance, l []T) T {
	return l[c.next(len(l))]
}

func shuffled[T any](c *chance, l []T) []T {
	out := slices.Clone(l)
	for i := len(out) - 1; i > 0; i-- {
		j := c.next(i + 1)
		out[i], out[j] = out[j], out[i]
	}
	return out
}

// row are so many facts of few kinds and keys, so that some are told anew.
func row(c *chance, count int) []api.Fact {
	var facts []api.Fact
	for range count {
		facts = append(facts, api.Fact{Kind: c.next(3), Key: uint32(c.next(4)), N: uint32(c.next(1 << 20))})
	}
	return facts
}

func wantErrno(t *testing.T, what string, got, want api.Errno) {
	t.Helper()
	if got != want {
		t.Errorf("%s: %d, want %d", what, got, want)
	}
}

func wantGet(t *testing.T, j *Journal, kind int, key, want uint32) {
	t.Helper()
	if got, is := j.Get(kind, key); got != want || !is {
		t.Errorf("Get(%d, %d) = %d, %v, want %d, true", kind, key, got, is, want)
	}
}

func wantNone(t *testing.T, j *Journal, kind int, key uint32) {
	t.Helper()
	if got, is := j.Get(kind, key); got != 0 || is {
		t.Errorf("Get(%d, %d) = %d, %v, want 0, false", kind, key, got, is)
	}
}

func wantLen(t *testing.T, j *Journal, want int) {
	t.Helper()
	if got := j.Len(); got != want {
		t.Errorf("Len() = %d, want %d", got, want)
	}
}

func wantFacts(t *testing.T, j *Journal, want ...api.Fact) {
	t.Helper()
	if got := j.Facts(); !slices.Equal(got, want) {
		t.Errorf("Facts() = %v, want %v", got, want)
	}
}

func wantBytes(t *testing.T, j *Journal, want ...byte) {
	t.Helper()
	if got := j.Bytes(); !bytes.Equal(got, want) {
		t.Errorf("Bytes() = %v, want %v", got, want)
	}
}

// wantNothing holds that nothing is written.
func wantNothing(t *testing.T, j *Journal) {
	t.Helper()
	wantLen(t, j, 0)
	wantFacts(t, j)
	wantBytes(t, j)
	for _, key := range keys {
		for _, kind := range append([]int{0, 1, 2, 254, 255}, wrongKinds...) {
			wantNone(t, j, kind, key)
		}
	}
}

// P12.1: a new one has an empty device, whatever its room is, and it stays so whatever is done to nothing.
func TestNew(t *testing.T) {
	for _, room := range []int{math.MinInt, -1 << 32, -12, -1, 0, 1, 2, 12, 1000, 1 << 40, math.MaxInt / 12, math.MaxInt/12 + 1, math.MaxInt} {
		b := newBoth(t, room)
		wantNothing(t, b.fast)
		b.sync()
		b.pack()
		for _, keep := range keeps {
			b.crash(keep)
		}
		wantNothing(t, b.fast)
	}
}

// P12.1: there is room for as many as was said, and for no more, also not of a fact that is there already; none has room in a room of 0 or below.
func TestRoom(t *testing.T) {
	for _, room := range []int{math.MinInt, -12, -1, 0, 1, 2, 3, 12, 40} {
		b := newBoth(t, room)
		for i := range max(room, 0) {
			wantErrno(t, "Put with room", b.put(api.Fact{Kind: i % 5, Key: uint32(i), N: 3}), api.OK)
		}
		before := b.fast.Bytes()
		for _, f := range []api.Fact{{}, {Kind: 0, Key: 0, N: 3}, {Kind: 0, Key: 0, N: 4}, {Kind: 255, Key: top, N: top}, {Kind: 9, Key: 9, N: 9}} {
			for range 2 {
				wantErrno(t, "Put without room", b.put(f), api.ErrFull)
			}
			b.sync()
			wantErrno(t, "Put without room behind a Sync", b.put(f), api.ErrFull)
		}
		wantBytes(t, b.fast, before...)
		wantLen(t, b.fast, max(room, 0))
	}
}

// P12.1: a room that is as great as may be has room, and its bytes go beyond what an int holds.
func TestGreatRoom(t *testing.T) {
	for _, room := range []int{1 << 40, math.MaxInt / 12, math.MaxInt/12 + 1, math.MaxInt/4 + 1, math.MaxInt} {
		b := newBoth(t, room)
		for i := range 20 {
			wantErrno(t, "Put with room", b.put(api.Fact{Kind: i, Key: 5, N: 6}), api.OK)
		}
		b.checkKept()
	}
}

// P12.1: each kind from 0 to 255 may be, and none else: with no fact, with some, and ahead of ErrFull.
func TestKinds(t *testing.T) {
	b := newBoth(t, 256)
	for kind := range 256 {
		for _, wrong := range wrongKinds {
			if got := b.fast.Put(api.Fact{Kind: wrong, Key: uint32(kind), N: 1}); got != api.ErrArg {
				t.Fatalf("Put of the kind %d = %d, want %d", wrong, got, api.ErrArg)
			}
		}
		wantErrno(t, "Put of a kind that may be", b.put(api.Fact{Kind: kind, Key: 7, N: uint32(kind) + 1}), api.OK)
		wantGet(t, b.fast, kind, 7, uint32(kind)+1)
		if got := b.fast.Bytes()[12*kind]; int(got) != kind {
			t.Errorf("the first byte of the kind %d is %d", kind, got)
		}
	}
	wantErrno(t, "Put of a kind that may be, without room", b.put(api.Fact{Kind: 255}), api.ErrFull)
	for _, wrong := range wrongKinds {
		wantErrno(t, "Put of a kind that may not be, without room", b.put(api.Fact{Kind: wrong, Key: 7, N: 9}), api.ErrArg)
		wantNone(t, b.fast, wrong, 7)
	}
	for _, room := range []int{0, -1, math.MinInt} {
		none := newBoth(t, room)
		wantErrno(t, "Put of a kind that may not be, with a room of none", none.put(api.Fact{Kind: 256}), api.ErrArg)
		wantErrno(t, "Put with a room of none", none.put(api.Fact{Kind: 255}), api.ErrFull)
		wantNothing(t, none.fast)
	}
}

// P12.1: a Put that is refused changes nothing, neither what is there nor what is kept.
func TestRefused(t *testing.T) {
	b := newBoth(t, 3, api.Fact{Kind: 1, Key: 1, N: 1})
	b.sync()
	for _, f := range []api.Fact{{Kind: 1, Key: 2, N: 2}, {Kind: 2, Key: 1, N: 3}} {
		for _, wrong := range wrongKinds {
			wantErrno(t, "Put of a kind that may not be", b.put(api.Fact{Kind: wrong, Key: 1, N: 8}), api.ErrArg)
		}
		b.checkKept()
		wantErrno(t, "Put", b.put(f), api.OK)
	}
	wantErrno(t, "Put without room", b.put(api.Fact{Kind: 1, Key: 1, N: 9}), api.ErrFull)
	b.checkKept()
	b.crash(0)
	wantFacts(t, b.fast, api.Fact{Kind: 1, Key: 1, N: 1})
}

// P12.1: keys and numbers of all sizes, each beside each.
func TestKeysAndNs(t *testing.T) {
	for _, kind := range []int{0, 1, 255} {
		for _, n := range keys {
			b := newBoth(t, len(keys))
			for _, key := range keys {
				wantErrno(t, "Put", b.put(api.Fact{Kind: kind, Key: key, N: n}), api.OK)
				wantGet(t, b.fast, kind, key, n)
			}
			for _, key := range keys {
				wantGet(t, b.fast, kind, key, n)
				wantNone(t, b.fast, kind^1, key)
			}
			b.crash(12 * len(keys))
			wantLen(t, b.fast, len(keys))
		}
	}
}

// P12.1: Get of what was put once, twice with another number, thrice, of another kind with the same key, of the same kind with another key, of a kind that may not be; a number of 0 is not none.
func TestGet(t *testing.T) {
	b := newBoth(t, 9, api.Fact{Kind: 3, Key: 10, N: 7})
	wantGet(t, b.fast, 3, 10, 7)
	for _, kind := range []int{0, 1, 2, 4, 10, 7, 255} {
		wantNone(t, b.fast, kind, 10)
	}
	for _, key := range []uint32{0, 3, 7, 9, 11, 10 << 8, 10 << 24, 1<<31 + 10, top - 10} {
		wantNone(t, b.fast, 3, key)
	}
	for _, kind := range []int{3 - 256, 3 + 256, 3 + 1<<32, -3, math.MinInt + 3} {
		wantNone(t, b.fast, kind, 10)
	}
	b.put(api.Fact{Kind: 3, Key: 11, N: 8})
	b.put(api.Fact{Kind: 4, Key: 10, N: 9})
	wantGet(t, b.fast, 3, 10, 7)
	b.put(api.Fact{Kind: 3, Key: 10, N: 5})
	wantGet(t, b.fast, 3, 10, 5)
	b.put(api.Fact{Kind: 3, Key: 10, N: 0})
	wantGet(t, b.fast, 3, 10, 0)
	b.put(api.Fact{Kind: 3, Key: 10, N: 7})
	wantGet(t, b.fast, 3, 10, 7)
	wantGet(t, b.fast, 3, 11, 8)
	wantGet(t, b.fast, 4, 10, 9)
	wantLen(t, b.fast, 6)
}

// P12.1: by rising kinds, those of one kind by rising keys, those of 2^31 and more behind those below; whatever the order in which they were put.
func TestFactsOrder(t *testing.T) {
	var want []api.Fact
	for _, kind := range []int{0, 1, 2, 127, 128, 254, 255} {
		for i, key := range keys {
			want = append(want, api.Fact{Kind: kind, Key: key, N: uint32(1000 - 10*i + kind)})
		}
	}
	c := chance(1)
	for range 20 {
		j := New(len(want))
		for _, f := range shuffled(&c, want) {
			wantErrno(t, "Put", j.Put(f), api.OK)
		}
		wantFacts(t, j, want...)
		wantLen(t, j, len(want))
	}
}

// P12.1: what was put more than once is told once, with its last number, be that greater or less; Len and Bytes have all.
func TestFactsOnce(t *testing.T) {
	j := New(10)
	var all []byte
	for _, f := range []api.Fact{
		{Kind: 2, Key: 1, N: 5}, {Kind: 1, Key: 9, N: 1}, {Kind: 2, Key: 1, N: 4}, {Kind: 1, Key: 2, N: 3},
		{Kind: 1, Key: 9, N: 2}, {Kind: 2, Key: 0, N: 6}, {Kind: 2, Key: 0, N: 6}, {Kind: 1, Key: 9, N: top}, {Kind: 2, Key: 1, N: 0},
	} {
		wantErrno(t, "Put", j.Put(f), api.OK)
		all = append(all, bytesOf(f)...)
	}
	wantFacts(t, j, api.Fact{Kind: 1, Key: 2, N: 3}, api.Fact{Kind: 1, Key: 9, N: top}, api.Fact{Kind: 2, Key: 0, N: 6}, api.Fact{Kind: 2, Key: 1, N: 0})
	wantLen(t, j, 9)
	wantBytes(t, j, all...)
}

// P12.1: twelve bytes a fact: the kind, three noughts, the key and the number with the highest bytes first; one behind the other as they were put.
func TestBytes(t *testing.T) {
	j := New(5)
	wantBytes(t, j)
	first := []byte{7, 0, 0, 0, 1, 2, 3, 4, 0xfa, 0xfb, 0xfc, 0xfd}
	j.Put(api.Fact{Kind: 7, Key: 0x01020304, N: 0xfafbfcfd})
	wantBytes(t, j, first...)
	j.Put(api.Fact{Kind: 0, Key: 0, N: 0})
	j.Put(api.Fact{Kind: 255, Key: top, N: top})
	j.Put(api.Fact{Kind: 7, Key: 0x01020304, N: 1})
	j.Put(api.Fact{Kind: 1, Key: 1, N: 1 << 24})
	wantBytes(t, j, slices.Concat(
		first,
		[]byte{0, 0, 0, 0, 0, 0, 0, 0, 0, 0, 0, 0},
		[]byte{255, 0, 0, 0, 255, 255, 255, 255, 255, 255, 255, 255},
		[]byte{7, 0, 0, 0, 1, 2, 3, 4, 0, 0, 0, 1},
		[]byte{1, 0, 0, 0, 0, 0, 0, 1, 1, 0, 0, 0},
	)...)
}

// P12.1, R3: what Facts and Bytes answer is new memory: to change it changes no journal and no other answer, and later calls change nothing of it.
func TestAnswersAreNew(t *testing.T) {
	facts := []api.Fact{{Kind: 1, Key: 1, N: 1}, {Kind: 1, Key: 2, N: 2}, {Kind: 2, Key: 1, N: 3}}
	b := newBoth(t, 40, facts...)
	firstFacts, secondFacts := b.fast.Facts(), b.fast.Facts()
	firstBytes, secondBytes := b.fast.Bytes(), b.fast.Bytes()
	clear(firstFacts[:cap(firstFacts)])
	clear(firstBytes[:cap(firstBytes)])
	b.check("a change of what was answered")
	b.checkKept()
	b.put(api.Fact{Kind: 1, Key: 1, N: 9})
	b.crash(12)
	for i := range 20 {
		b.put(api.Fact{Kind: 9, Key: uint32(i), N: top})
	}
	b.pack()
	b.put(api.Fact{Kind: 9, Key: 0, N: 4})
	if !slices.Equal(secondFacts, facts) || !bytes.Equal(secondBytes, bytesOf(facts...)) {
		t.Errorf("the journal was changed, and so was what it had answered: %v, %v", secondFacts, secondBytes)
	}
	packed := b.fast.Bytes()
	clear(packed[:cap(packed)])
	b.check("a change of what was answered behind a Pack")
	b.crash(0)
	b.sync()
}

// P12.2: what was synced is kept, whatever is crashed; a Sync of none and a second one change nothing.
func TestSync(t *testing.T) {
	for count := range 5 {
		for _, keep := range keeps {
			b := newBoth(t, 9)
			b.sync()
			for i := range count {
				b.put(api.Fact{Kind: i % 2, Key: uint32(i), N: 1})
			}
			b.sync()
			b.sync()
			wantLen(t, b.fast, count)
			b.crash(keep)
			wantLen(t, b.fast, count)
		}
	}
}

// P12.2: without a Sync nothing is kept.
func TestNoSync(t *testing.T) {
	for count := range 5 {
		b := newBoth(t, 9)
		for i := range count {
			b.put(api.Fact{Kind: 1, Key: uint32(i), N: 1})
		}
		b.checkKept()
		b.crash(0)
		wantNothing(t, b.fast)
	}
}

// crashes are how many of three facts are left that are not kept, which have 36 bytes.
var crashes = []struct{ keep, left int }{
	{math.MinInt, 0}, {-37, 0}, {-36, 0}, {-12, 0}, {-1, 0},
	{0, 0}, {1, 0}, {11, 0}, {12, 1}, {13, 1}, {23, 1}, {24, 2}, {25, 2}, {35, 2}, {36, 3},
	{37, 0}, {38, 0}, {37 + 11, 0}, {37 + 12, 1}, {37 + 36, 3}, {2 * 37, 0}, {2*37 + 24, 2},
	{37 * (1 << 40), 0}, {37*(1<<40) + 12, 1}, {37*(1<<40) - 1, 3},
	{math.MaxInt, 0}, {math.MaxInt - math.MaxInt%37, 0}, {math.MaxInt - math.MaxInt%37 - 1, 3}, {math.MaxInt - math.MaxInt%37 - 2, 2}, {math.MaxInt - math.MaxInt%37 - 25, 1},
}

// P12.2: of the bytes that are not kept the first so many stay, modulo one more than there are, and a torn fact is cut off; with none that are kept, and with some.
func TestCrash(t *testing.T) {
	for kept := range 4 {
		for _, x := range crashes {
			b := newBoth(t, 9)
			var want []api.Fact
			for i := range kept {
				b.put(api.Fact{Kind: 1, Key: uint32(i), N: 5})
				want = append(want, api.Fact{Kind: 1, Key: uint32(i), N: 5})
			}
			b.sync()
			for i := range 3 {
				b.put(api.Fact{Kind: 2, Key: uint32(i), N: 6})
				if i < x.left {
					want = append(want, api.Fact{Kind: 2, Key: uint32(i), N: 6})
				}
			}
			b.crash(x.keep)
			wantFacts(t, b.fast, want...)
			wantLen(t, b.fast, kept+x.left)
			wantBytes(t, b.fast, bytesOf(want...)...)
		}
	}
}

// P12.2: each number of bytes, at each count of facts that are kept and that are not.
func TestCrashAll(t *testing.T) {
	c := chance(2)
	for kept := range 4 {
		for loose := range 5 {
			b := newBoth(t, 20, row(&c, kept)...)
			b.sync()
			for _, f := range row(&c, loose) {
				b.put(f)
			}
			for keep := -1; keep <= 2*(12*loose+1)+1; keep++ {
				x := b.copied()
				x.crash(keep)
				if keep == 12*loose && x.fast.Len() != kept+loose || keep == 12*loose+1 && x.fast.Len() != kept {
					t.Errorf("%d kept and %d not: Crash(%d) leaves %d", kept, loose, keep, x.fast.Len())
				}
			}
			for _, keep := range keeps {
				b.copied().crash(keep)
			}
		}
	}
}

// P12.2: a number that was written over comes back if what wrote over it is lost, and stays if it is left; one of which nothing is left is none.
func TestCrashGoesBack(t *testing.T) {
	for keep, want := range map[int]uint32{0: 1, 11: 1, 12: 2, 23: 2, 24: 3, 35: 3, 36: 3, 47: 3, 48: 3, 59: 3, 60: 4, 61: 1, 73: 2} {
		b := newBoth(t, 9, api.Fact{Kind: 1, Key: 5, N: 1})
		b.sync()
		for _, f := range []api.Fact{{Kind: 1, Key: 5, N: 2}, {Kind: 1, Key: 5, N: 3}, {Kind: 2, Key: 5, N: 8}, {Kind: 1, Key: 6, N: 9}, {Kind: 1, Key: 5, N: 4}} {
			b.put(f)
		}
		b.crash(keep)
		wantGet(t, b.fast, 1, 5, want)
		if want < 3 {
			wantNone(t, b.fast, 2, 5)
			wantNone(t, b.fast, 1, 6)
		}
	}
}

// P12.2: what is left is kept: a second crash of any number changes nothing.
func TestCrashTwice(t *testing.T) {
	for first := range 38 {
		for _, second := range append([]int{36, 37}, keeps...) {
			b := newBoth(t, 9, api.Fact{Kind: 1, Key: 1, N: 1})
			b.sync()
			for i := range 3 {
				b.put(api.Fact{Kind: 2, Key: uint32(i), N: 6})
			}
			b.crash(first)
			before := b.fast.Bytes()
			b.crash(second)
			wantBytes(t, b.fast, before...)
		}
	}
}

// P12.2: behind a crash there is room again, and what is put goes on behind what is left, the torn bytes gone; of it nothing is kept yet.
func TestRoomBehindCrash(t *testing.T) {
	for keep, left := range map[int]int{-1: 1, 0: 1, 1: 1, 11: 1, 12: 2, 13: 2, 23: 2, 24: 3, 25: 3, 35: 3, 36: 4, 37: 1} {
		b := newBoth(t, 4, api.Fact{Kind: 1, Key: 1, N: 1})
		b.sync()
		for i := range 3 {
			b.put(api.Fact{Kind: 2, Key: uint32(i), N: top})
		}
		wantErrno(t, "Put without room", b.put(api.Fact{}), api.ErrFull)
		b.crash(keep)
		wantLen(t, b.fast, left)
		before := b.fast.Bytes()
		for i := range 4 - left {
			f := api.Fact{Kind: 2, Key: uint32(i), N: 0x10203}
			wantErrno(t, "Put behind a crash", b.put(f), api.OK)
			before = append(before, bytesOf(f)...)
			wantBytes(t, b.fast, before...)
			b.checkKept()
		}
		wantErrno(t, "Put without room again", b.put(api.Fact{}), api.ErrFull)
		b.crash(0)
		wantLen(t, b.fast, left)
	}
}

// P12.3: the device has the bytes of Facts instead, all kept, and there is room again for each fact that was told anew.
func TestPack(t *testing.T) {
	one, two, three := api.Fact{Kind: 1, Key: 9, N: 4}, api.Fact{Kind: 2, Key: 0, N: 5}, api.Fact{Kind: 2, Key: 1 << 31, N: 6}
	for _, facts := range [][]api.Fact{
		nil,
		{two},
		{one, two, three},
		{three, two, one},
		{three, three},
		{{Kind: 1, Key: 9, N: 5}, three, {Kind: 2, Key: 0, N: 7}, {Kind: 1, Key: 9, N: 3}, two, {Kind: 2, Key: 0, N: 0}, two, one},
	} {
		for synced := range len(facts) + 1 {
			b := newBoth(t, len(facts), facts[:synced]...)
			b.sync()
			for _, f := range facts[synced:] {
				b.put(f)
			}
			want := b.fast.Facts()
			b.pack()
			wantLen(t, b.fast, len(want))
			wantFacts(t, b.fast, want...)
			wantBytes(t, b.fast, bytesOf(want...)...)
			for _, keep := range keeps {
				b.crash(keep)
			}
			wantBytes(t, b.fast, bytesOf(want...)...)
			b.pack()
			wantBytes(t, b.fast, bytesOf(want...)...)
			for i := range len(facts) - len(want) {
				wantErrno(t, "Put of as many as were told anew", b.put(api.Fact{Kind: 2, Key: 0, N: uint32(i)}), api.OK)
			}
			wantErrno(t, "Put of one more", b.put(one), api.ErrFull)
			b.checkKept()
			b.crash(0)
			wantBytes(t, b.fast, bytesOf(want...)...)
		}
	}
}

// P12.3, P12.4: Pack changes no last number, and what is put behind it goes behind it.
func TestPackLast(t *testing.T) {
	c := chance(3)
	for range 200 {
		b := newBoth(t, 40, row(&c, c.next(20))...)
		if c.next(2) == 0 {
			b.crash(c.next(300))
		}
		before := b.fast.Facts()
		b.pack()
		wantFacts(t, b.fast, before...)
		for _, f := range before {
			wantGet(t, b.fast, f.Kind, f.Key, f.N)
		}
		f := api.Fact{Kind: 1, Key: 2, N: 77}
		wantErrno(t, "Put behind a Pack", b.put(f), api.OK)
		wantBytes(t, b.fast, bytesOf(append(before, f)...)...)
		wantGet(t, b.fast, 1, 2, 77)
		b.crash(11)
		wantFacts(t, b.fast, before...)
	}
}

// written is what a journal was told since its last Pack, and how many bytes of it must be there behind a crash.
type written struct {
	facts []api.Fact
	kept  int
}

// checkBeginning holds P12.4 behind a crash, without a look at how many bytes stay: what is there are whole facts of the beginning of what was written, with all that was kept.
func (w *written) checkBeginning(t *testing.T, j *Journal) {
	t.Helper()
	got := j.Bytes()
	if !bytes.HasPrefix(bytesOf(w.facts...), got) || len(got)%12 != 0 {
		t.Fatalf("behind a crash there is %v, which is no beginning of %v", got, bytesOf(w.facts...))
	}
	count := len(got) / 12
	if count < w.kept {
		t.Fatalf("behind a crash there are %d facts, but %d were kept", count, w.kept)
	}
	w.facts, w.kept = w.facts[:count], count
	if want := lastOf(w.facts); !slices.Equal(j.Facts(), want) {
		t.Fatalf("behind a crash the facts are %v, want %v", j.Facts(), want)
	}
	wantLen(t, j, count)
}

// P12.4: many rows of calls, with a crash behind each, and all that may be left is left at some time.
func TestBeginning(t *testing.T) {
	c := chance(4)
	whole, cut := 0, 0
	for range 600 {
		j := New(30)
		w := written{}
		for range 60 {
			switch c.next(12) {
			case 0:
				j.Sync()
				w.kept = len(w.facts)
			case 1:
				ahead := len(w.facts)
				j.Crash(c.next(500) - 20)
				w.checkBeginning(t, j)
				if len(w.facts) == ahead {
					whole++
				} else {
					cut++
				}
			case 2:
				before := j.Facts()
				j.Pack()
				wantFacts(t, j, before...)
				w = written{before, len(before)}
			default:
				f := row(&c, 1)[0]
				want := api.OK
				if len(w.facts) == 30 {
					want = api.ErrFull
				} else {
					w.facts = append(slices.Clone(w.facts), f)
				}
				wantErrno(t, "Put", j.Put(f), want)
			}
		}
		j.Crash(c.next(500))
		w.checkBeginning(t, j)
	}
	if whole < 100 || cut < 100 {
		t.Errorf("%d crashes left all, %d did not: the rows are too easy", whole, cut)
	}
}

// P12.1 to P12.3: many calls in any order, all held against the list.
func TestManyCalls(t *testing.T) {
	c := chance(5)
	full := 0
	for round := range 300 {
		b := newBoth(t, c.next(40)-1)
		for range 80 {
			switch c.next(20) {
			case 0:
				b.sync()
			case 1:
				b.crash(c.next(600) - 30)
			case 2:
				b.crash(some(&c, keeps))
			case 3:
				if round%3 == 0 {
					b.pack()
				}
			case 4:
				b.put(api.Fact{Kind: some(&c, wrongKinds), Key: 1, N: 1})
			case 5, 6:
				b.put(api.Fact{Kind: c.next(256), Key: some(&c, keys), N: some(&c, keys)})
			default:
				if b.put(row(&c, 1)[0]) == api.ErrFull {
					full++
				}
			}
		}
		b.crash(c.next(100))
	}
	if full < 100 {
		t.Errorf("%d were refused: the rows are too easy", full)
	}
}

// R5: to ask changes nothing, and one knows nothing of another one.
func TestApart(t *testing.T) {
	x, y := newBoth(t, 2, api.Fact{Kind: 1, Key: 1, N: 1}), newBoth(t, 3, api.Fact{Kind: 1, Key: 1, N: 2})
	x.sync()
	y.put(api.Fact{Kind: 2, Key: 2, N: 3})
	for range 3 {
		x.check("nothing")
		y.check("nothing")
		wantGet(t, x.fast, 1, 1, 1)
		wantNone(t, x.fast, 2, 2)
		wantGet(t, y.fast, 1, 1, 2)
	}
	y.crash(0)
	wantNothing(t, y.fast)
	x.check("a crash of another one")
	x.put(api.Fact{Kind: 9, Key: 9, N: 9})
	x.pack()
	wantNothing(t, y.fast)
	wantErrno(t, "Put beside a full one", y.put(api.Fact{}), api.OK)
	wantErrno(t, "Put in a full one", x.put(api.Fact{}), api.ErrFull)
}

// The chapter's examples.
func TestExamples(t *testing.T) {
	for keep, want := range map[int]uint32{11: 7, 12: 9} {
		j := New(2)
		j.Put(api.Fact{Kind: 1, Key: 5, N: 7})
		j.Sync()
		j.Put(api.Fact{Kind: 1, Key: 5, N: 9})
		j.Crash(keep)
		wantGet(t, j, 1, 5, want)
	}
}

// P1, R1: no call panics, at any argument, and all keep to their promises; the steps are three bytes each.
func FuzzCalls(f *testing.F) {
	f.Add([]byte{0, 1, 5, 1, 0, 0, 0, 1, 5, 2, 0, 11}, 4, 1, uint32(5), 12)
	f.Add([]byte{0, 1, 5, 0, 1, 5, 3, 0, 0, 0, 2, 5}, 3, 255, uint32(top), math.MaxInt)
	f.Add([]byte{3, 0, 0, 2, 0, 0, 1, 0, 0}, 0, 256, uint32(0), math.MinInt)
	f.Add([]byte{0, 0, 0, 0, 0, 1}, -1, -1, uint32(1), -1)
	f.Add([]byte{0, 0, 0, 0, 0, 1}, math.MinInt, math.MinInt, uint32(1<<31), 37)
	f.Add([]byte{0, 0, 0, 2, 255, 255}, math.MaxInt, math.MaxInt, uint32(1<<31-1), math.MaxInt-1)
	f.Fuzz(func(t *testing.T, steps []byte, room, kind int, key uint32, keep int) {
		b := newBoth(t, room)
		for count := 0; len(steps) >= 3 && count < 60; count++ {
			x, y := int(steps[1]), int(steps[2])
			switch steps[0] % 6 {
			case 1:
				b.sync()
			case 2:
				b.crash(256*x + y)
			case 3:
				b.pack()
			default:
				b.put(api.Fact{Kind: x, Key: uint32(y), N: uint32(count)})
			}
			steps = steps[3:]
		}
		b.checkGet(kind, key)
		b.put(api.Fact{Kind: kind, Key: key, N: uint32(keep)})
		b.checkGet(kind, key)
		b.put(api.Fact{Kind: keep, Key: uint32(kind), N: key})
		b.crash(keep)
		b.checkGet(kind, key)
		b.put(api.Fact{Kind: 255, Key: key, N: key})
		b.pack()
		b.crash(kind)
	})
}
