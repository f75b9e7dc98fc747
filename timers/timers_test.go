package timers

import (
	"maps"
	"math"
	"slices"
	"testing"

	"octroi/api"
)

// latest is the latest time that may be.
const latest = 1 << 40

// wrongTimes are times that may not be, mayTimes such as may.
var (
	wrongTimes = []int{-1, -2, -10, -1 << 32, -latest, -latest - 1, math.MinInt + 1, math.MinInt, latest + 1, latest + 2, latest + 1<<32, 1 << 41, math.MaxInt - 1, math.MaxInt}
	mayTimes   = []int{0, 1, 2, 10, 255, 1 << 31, 1<<32 - 1, 1 << 32, 1<<32 + 1, latest - 1, latest}
)

// farIDs are ids of all sizes, rising; several have their last 8, 16 or 32 bits in common.
var farIDs = []int{math.MinInt, math.MinInt + 1, -1 << 40, -1 << 32, -257, -256, -2, -1, 0, 1, 2, 255, 256, 257, 65536, 1<<31 - 1, 1 << 31, 1<<32 - 1, 1 << 32, 1<<32 + 1, 1 << 40, math.MaxInt - 1, math.MaxInt}

// slow is timers without a map and without a sort: a list.
type slow []api.Timer

func (s slow) index(id int) int {
	return slices.IndexFunc(s, func(x api.Timer) bool { return x.ID == id })
}

func (s *slow) set(id, at int) api.Errno {
	i := s.index(id)
	switch {
	case at < 0 || at > 1<<40:
		return api.ErrArg
	case i < 0 && len(*s) >= 256:
		return api.ErrFull
	case i < 0:
		*s = append(*s, api.Timer{ID: id, At: at})
	default:
		(*s)[i].At = at
	}
	return api.OK
}

func (s *slow) stop(id int) api.Errno {
	i := s.index(id)
	if i < 0 {
		return api.ErrNone
	}
	*s = slices.Delete(*s, i, i+1)
	return api.OK
}

// first is the place of the one that fires ahead of all others.
func (s slow) first() int {
	first := 0
	for i, x := range s {
		y := s[first]
		if x.At < y.At || x.At == y.At && x.ID < y.ID {
			first = i
		}
	}
	return first
}

func (s *slow) due(now int) []api.Timer {
	var out []api.Timer
	for len(*s) > 0 {
		i := s.first()
		if (*s)[i].At > now {
			break
		}
		out = append(out, (*s)[i])
		*s = slices.Delete(*s, i, i+1)
	}
	return out
}

func (s slow) next() (int, bool) {
	if len(s) == 0 {
		return 0, false
	}
	return s[s.first()].At, true
}

// all are those of some timers that will fire, in order; these stay as they are.
func all(x *Timers) []api.Timer {
	other := &Timers{maps.Clone(x.times)}
	return other.Due(latest)
}

// both is timers, and the list that they are held against.
type both struct {
	t    *testing.T
	fast *Timers
	slow slow
}

func newBoth(t *testing.T, some ...api.Timer) *both {
	t.Helper()
	b := &both{t: t, fast: New()}
	b.check()
	for _, x := range some {
		wantErrno(t, "Set", b.set(x.ID, x.At), api.OK)
	}
	return b
}

func (b *both) set(id, at int) api.Errno {
	b.t.Helper()
	want := b.slow.set(id, at)
	if got := b.fast.Set(id, at); got != want {
		b.t.Fatalf("Set(%d, %d) = %d, want %d", id, at, got, want)
	}
	b.check()
	return want
}

func (b *both) stop(id int) api.Errno {
	b.t.Helper()
	want := b.slow.stop(id)
	if got := b.fast.Stop(id); got != want {
		b.t.Fatalf("Stop(%d) = %d, want %d", id, got, want)
	}
	b.check()
	return want
}

func (b *both) due(now int) []api.Timer {
	b.t.Helper()
	want := b.slow.due(now)
	if got := b.fast.Due(now); !slices.Equal(got, want) {
		b.t.Fatalf("Due(%d) = %v, want %v", now, got, want)
	}
	b.check()
	return want
}

// check holds all that timers tell of themselves, and all that will be due.
func (b *both) check() {
	b.t.Helper()
	if got := b.fast.Len(); got != len(b.slow) {
		b.t.Fatalf("Len() = %d, want %d", got, len(b.slow))
	}
	at, will := b.slow.next()
	if got, ok := b.fast.Next(); got != at || ok != will {
		b.t.Fatalf("Next() = %d, %v, want %d, %v", got, ok, at, will)
	}
	rest := slices.Clone(b.slow)
	if got, want := all(b.fast), rest.due(latest); !slices.Equal(got, want) {
		b.t.Fatalf("what will fire is %v, want %v", got, want)
	}
}

// chance is numbers that follow no short rule, the same ones each time.
type chance uint64

func (c *chance) next(below int) int {
	*c = *c*6364136223846793005 + 1442695040888963407
	return int(uint64(*c)>>33) % below
}

// some is one of a list, shuffled a copy of one in another order.
func some[T any](c *chance, l []T) T {
	return l[c.next(len(l))]
}

func shuffled[T any](c *chance, l []T) []T {
	out := slices.Clone(l)
	for i := len(out) - 1; i > 0; i-- {
		j := c.next(i + 1)
		out[i], out[j] = out[j], out[i]
	}
	return out
}

// orders calls f with each order of a list.
func orders[T any](l []T, f func([]T)) {
	if len(l) == 0 {
		f(nil)
		return
	}
	for i := range l {
		rest := slices.Delete(slices.Clone(l), i, i+1)
		orders(rest, func(order []T) { f(append([]T{l[i]}, order...)) })
	}
}

func wantErrno(t *testing.T, what string, got, want api.Errno) {
	t.Helper()
	if got != want {
		t.Errorf("%s: %d, want %d", what, got, want)
	}
}

func wantLen(t *testing.T, x *Timers, want int) {
	t.Helper()
	if got := x.Len(); got != want {
		t.Errorf("Len() = %d, want %d", got, want)
	}
}

func wantNext(t *testing.T, x *Timers, want int) {
	t.Helper()
	if got, ok := x.Next(); got != want || !ok {
		t.Errorf("Next() = %d, %v, want %d, true", got, ok, want)
	}
}

func wantDue(t *testing.T, x *Timers, now int, want ...api.Timer) {
	t.Helper()
	if got := x.Due(now); !slices.Equal(got, want) {
		t.Errorf("Due(%d) = %v, want %v", now, got, want)
	}
}

// wantNothing holds that nothing will fire.
func wantNothing(t *testing.T, x *Timers) {
	t.Helper()
	wantLen(t, x, 0)
	if got, ok := x.Next(); got != 0 || ok {
		t.Errorf("Next() = %d, %v with none, want 0, false", got, ok)
	}
	for _, now := range []int{math.MinInt, -1, 0, 1, latest, math.MaxInt} {
		wantDue(t, x, now)
	}
	wantLen(t, x, 0)
}

// full is 256 that will fire: the ids 0 to 255, each at 1000 and its id.
func full(t *testing.T) *both {
	t.Helper()
	b := newBoth(t)
	for id := range 256 {
		wantErrno(t, "Set of one of 256", b.set(id, 1000+id), api.OK)
		wantLen(t, b.fast, id+1)
	}
	return b
}

// P10.1: in a new one nothing will fire, and nothing can be stopped.
func TestNew(t *testing.T) {
	x := New()
	wantNothing(t, x)
	for _, id := range farIDs {
		wantErrno(t, "Stop in a new one", x.Stop(id), api.ErrNone)
	}
	wantNothing(t, x)
}

// P10.1: both bounds of a time may be, and what lies between; it fires then.
func TestSetBounds(t *testing.T) {
	for _, at := range mayTimes {
		x := New()
		wantErrno(t, "Set of a time that may be", x.Set(7, at), api.OK)
		wantLen(t, x, 1)
		wantNext(t, x, at)
		wantDue(t, x, at-1)
		wantDue(t, x, at, api.Timer{ID: 7, At: at})
		wantNothing(t, x)
	}
}

// P10.1: a time beyond the bounds is refused and changes nothing: with none, with some, with room for no more; of a new id, and of one that will fire already.
func TestSetWrong(t *testing.T) {
	for _, b := range []*both{
		newBoth(t),
		newBoth(t, api.Timer{ID: 1, At: 0}, api.Timer{ID: 2, At: latest}),
		full(t),
	} {
		before := all(b.fast)
		for _, at := range wrongTimes {
			for _, id := range append([]int{1, 2, 255}, farIDs...) {
				wantErrno(t, "Set of a time that may not be", b.set(id, at), api.ErrArg)
			}
		}
		if got := all(b.fast); !slices.Equal(got, before) {
			t.Errorf("what will fire is %v, want as ahead: %v", got, before)
		}
	}
}

// P10.1: of two errors that apply, ErrArg is told, and with a time that may be, ErrFull.
func TestSetErrors(t *testing.T) {
	b := full(t)
	for _, at := range wrongTimes {
		wantErrno(t, "Set of a 257th, of a time that may not be", b.set(256, at), api.ErrArg)
	}
	for _, at := range mayTimes {
		wantErrno(t, "Set of a 257th", b.set(256, at), api.ErrFull)
	}
}

// P10.1: what is set anew fires at the later setting alone, be that earlier, later or the same.
func TestSetAgain(t *testing.T) {
	for _, old := range mayTimes {
		for _, at := range mayTimes {
			b := newBoth(t, api.Timer{ID: 5, At: 10}, api.Timer{ID: 4, At: old}, api.Timer{ID: 3, At: 10})
			wantErrno(t, "Set anew", b.set(4, at), api.OK)
			wantLen(t, b.fast, 3)
			b.due(min(old, at) - 1)
			b.due(min(old, at))
			b.due(max(old, at) - 1)
			b.due(max(old, at))
			b.due(latest)
			wantNothing(t, b.fast)
		}
	}
}

// P10.1: many settings of one id, of which the last one holds.
func TestSetManyTimes(t *testing.T) {
	x := New()
	for i := range 1000 {
		wantErrno(t, "Set anew", x.Set(-3, (i*7919+11)%1000), api.OK)
		wantLen(t, x, 1)
		wantNext(t, x, (i*7919+11)%1000)
	}
	at := (999*7919 + 11) % 1000
	wantDue(t, x, at-1)
	wantDue(t, x, latest, api.Timer{ID: -3, At: at})
	wantNothing(t, x)
}

// P10.1: a 257th is refused and changes nothing, whichever id it has; each of the 256 can be set anew.
func TestFull(t *testing.T) {
	b := full(t)
	before := all(b.fast)
	for _, id := range farIDs {
		if id >= 0 && id < 256 {
			continue
		}
		for _, at := range []int{0, 5, 1000, latest} {
			wantErrno(t, "Set of a 257th", b.set(id, at), api.ErrFull)
		}
		wantErrno(t, "Stop of one that was refused", b.stop(id), api.ErrNone)
	}
	if got := all(b.fast); !slices.Equal(got, before) || len(got) != 256 {
		t.Errorf("what will fire is %v, want as ahead: %v", got, before)
	}
	for id := range 256 {
		wantErrno(t, "Set of one of 256 anew", b.set(id, 500-id), api.OK)
		wantErrno(t, "Set of a 257th", b.set(256, 0), api.ErrFull)
		wantLen(t, b.fast, 256)
	}
	if got := b.due(latest); len(got) != 256 || got[0] != (api.Timer{ID: 255, At: 245}) {
		t.Errorf("all of 256 are due: %v", got)
	}
	wantNothing(t, b.fast)
}

// P10.1: behind a Stop there is room for one more, and behind a Due for as many as it took.
func TestRoomAgain(t *testing.T) {
	b := full(t)
	for i := range 8 {
		wantErrno(t, "Stop", b.stop(i), api.OK)
		wantErrno(t, "Set of a new one behind a Stop", b.set(1000+i, 2000), api.OK)
		wantErrno(t, "Set of that which was stopped", b.set(i, 2000), api.ErrFull)
	}
	if got := b.due(1000 + 9); len(got) != 2 {
		t.Errorf("Due(1009) = %v, want those at 1008 and 1009", got)
	}
	wantErrno(t, "Set of a new one behind a Due", b.set(3000, 2000), api.OK)
	wantErrno(t, "Set of one that was due", b.set(8, 2000), api.OK)
	wantErrno(t, "Set of another one that was due", b.set(9, 2000), api.ErrFull)
	wantErrno(t, "Stop of one that does not fire", b.stop(9), api.ErrNone)
	wantErrno(t, "Set behind a Stop of none", b.set(9, 2000), api.ErrFull)
	b.due(999)
	wantErrno(t, "Set behind a Due of none", b.set(9, 2000), api.ErrFull)
	b.due(latest)
	for id := range 256 {
		wantErrno(t, "Set of 256 behind a Due of all", b.set(-id, latest), api.OK)
	}
	wantErrno(t, "Set of one more", b.set(1, latest), api.ErrFull)
}

// P10.1, P10.2: ids of all sizes are set apart, and come in order.
func TestIDs(t *testing.T) {
	c := chance(1)
	for range 20 {
		b := newBoth(t)
		for _, id := range shuffled(&c, farIDs) {
			wantErrno(t, "Set", b.set(id, 9), api.OK)
		}
		wantLen(t, b.fast, len(farIDs))
		gone := some(&c, farIDs)
		wantErrno(t, "Stop", b.stop(gone), api.OK)
		wantErrno(t, "Stop, twice in a row", b.stop(gone), api.ErrNone)
		var got []int
		for _, x := range b.due(9) {
			got = append(got, x.ID)
		}
		if want := slices.DeleteFunc(slices.Clone(farIDs), func(id int) bool { return id == gone }); !slices.Equal(got, want) {
			t.Fatalf("due are %v, want %v", got, want)
		}
	}
}

// P10.1: Stop of one that will fire, of one that will not, twice in a row, and behind the Due that took it.
func TestStop(t *testing.T) {
	b := newBoth(t, api.Timer{ID: 1, At: 10}, api.Timer{ID: 2, At: 20}, api.Timer{ID: 3, At: 30})
	for _, id := range []int{0, 4, -1, -2, 10, 20, 257, 1<<32 + 1, math.MinInt, math.MaxInt} {
		wantErrno(t, "Stop of one that was never set", b.stop(id), api.ErrNone)
		wantLen(t, b.fast, 3)
	}
	wantErrno(t, "Stop", b.stop(2), api.OK)
	wantLen(t, b.fast, 2)
	wantErrno(t, "Stop, twice in a row", b.stop(2), api.ErrNone)
	wantLen(t, b.fast, 2)
	b.due(10)
	wantErrno(t, "Stop behind the Due that took it", b.stop(1), api.ErrNone)
	wantLen(t, b.fast, 1)
	wantErrno(t, "Set of one that was stopped", b.set(2, 15), api.OK)
	wantLen(t, b.fast, 2)
	wantDue(t, b.fast, 100, api.Timer{ID: 2, At: 15}, api.Timer{ID: 3, At: 30})
	wantErrno(t, "Stop behind the Due of all", b.fast.Stop(3), api.ErrNone)
	wantNothing(t, b.fast)
}

// P10.2: with nothing that is due, with some, with all.
func TestDue(t *testing.T) {
	one, two, three := api.Timer{ID: 3, At: 10}, api.Timer{ID: 2, At: 20}, api.Timer{ID: 1, At: 30}
	orders([]api.Timer{one, two, three}, func(order []api.Timer) {
		for now, want := range map[int][]api.Timer{
			math.MinInt: nil, -1: nil, 0: nil, 9: nil,
			10: {one}, 11: {one}, 19: {one},
			20: {one, two}, 29: {one, two},
			30: {one, two, three}, 31: {one, two, three}, latest: {one, two, three}, latest + 1: {one, two, three}, math.MaxInt: {one, two, three},
		} {
			b := newBoth(t, order...)
			wantDue(t, b.fast, now, want...)
			wantLen(t, b.fast, 3-len(want))
			wantDue(t, b.fast, now)
			wantDue(t, b.fast, latest, []api.Timer{one, two, three}[len(want):]...)
			wantNothing(t, b.fast)
		}
	})
}

// P10.2: at the very time, one below and one above.
func TestDueAtTime(t *testing.T) {
	for _, at := range mayTimes {
		for _, late := range []int{0, 1, 2, 1 << 32} {
			b := newBoth(t, api.Timer{ID: 6, At: at})
			wantDue(t, b.fast, at-2)
			wantDue(t, b.fast, at-1)
			wantLen(t, b.fast, 1)
			wantDue(t, b.fast, at+late, api.Timer{ID: 6, At: at})
			wantDue(t, b.fast, at+late)
			wantNothing(t, b.fast)
		}
	}
}

// P10.2: a time below 0 takes none, also of those at 0.
func TestDueBelow0(t *testing.T) {
	b := newBoth(t, api.Timer{ID: 1, At: 0}, api.Timer{ID: -1, At: 0}, api.Timer{ID: 2, At: 1})
	for _, now := range []int{-1, -2, -1 << 32, -latest, math.MinInt} {
		wantDue(t, b.fast, now)
		b.check()
	}
	wantDue(t, b.fast, 0, api.Timer{ID: -1, At: 0}, api.Timer{ID: 1, At: 0})
	wantNext(t, b.fast, 1)
}

// P10.2: rising times, and those of one time by rising ids, those below 0 first; whatever the order in which they were set.
func TestDueOrder(t *testing.T) {
	want := []api.Timer{
		{ID: 9, At: 0},
		{ID: -4, At: 5}, {ID: -1, At: 5}, {ID: 0, At: 5}, {ID: 2, At: 5},
		{ID: 1, At: 6},
		{ID: -9, At: 7},
	}
	orders(want, func(order []api.Timer) {
		x := New()
		for _, y := range order {
			wantErrno(t, "Set", x.Set(y.ID, y.At), api.OK)
		}
		wantNext(t, x, 0)
		wantDue(t, x, 5, want[:5]...)
		wantNext(t, x, 6)
		wantDue(t, x, 7, want[5:]...)
		wantNothing(t, x)
	})
}

// P10.2, R5: 256 of one time, and of few times, come in one order each time.
func TestDueOrderMany(t *testing.T) {
	c := chance(2)
	for round := range 60 {
		b := newBoth(t)
		for i := range 256 {
			b.slow.set(i*37-4000, 10+c.next(1+round%4))
		}
		for _, x := range shuffled(&c, b.slow) {
			wantErrno(t, "Set", b.fast.Set(x.ID, x.At), api.OK)
		}
		b.check()
		b.due(10)
		b.due(12)
		b.due(13)
		wantNothing(t, b.fast)
	}
}

// P10.2: the order is not that in which they were set, nor set anew.
func TestDueOrderAgain(t *testing.T) {
	b := newBoth(t, api.Timer{ID: 1, At: 30}, api.Timer{ID: 2, At: 20}, api.Timer{ID: 3, At: 10})
	b.set(1, 10)
	b.set(3, 30)
	wantDue(t, b.fast, 30, api.Timer{ID: 1, At: 10}, api.Timer{ID: 2, At: 20}, api.Timer{ID: 3, At: 30})
}

// P10.2: ids and times as far apart as may be, whose difference would go round.
func TestDueFar(t *testing.T) {
	low, high := math.MinInt, math.MaxInt
	b := newBoth(t, api.Timer{ID: high, At: 0}, api.Timer{ID: low, At: latest}, api.Timer{ID: high - 1, At: latest}, api.Timer{ID: -1, At: latest}, api.Timer{ID: low + 1, At: 0})
	wantDue(t, b.fast, math.MaxInt,
		api.Timer{ID: low + 1, At: 0}, api.Timer{ID: high, At: 0},
		api.Timer{ID: low, At: latest}, api.Timer{ID: -1, At: latest}, api.Timer{ID: high - 1, At: latest})
}

// P10.2: nothing hangs on the time of the Due ahead: an earlier one takes what was set since.
func TestDueGoesBack(t *testing.T) {
	b := newBoth(t, api.Timer{ID: 1, At: 50})
	b.due(40)
	b.set(2, 10)
	wantNext(t, b.fast, 10)
	if got := b.due(9); len(got) != 0 {
		t.Errorf("Due(9) = %v, want none", got)
	}
	if got := b.due(10); !slices.Equal(got, []api.Timer{{ID: 2, At: 10}}) {
		t.Errorf("Due(10) = %v, want 2 at 10", got)
	}
	b.due(latest)
	b.set(1, 0)
	wantDue(t, b.fast, 0, api.Timer{ID: 1, At: 0})
}

// P10.2, R3: what Due answers is new memory.
func TestDueIsNew(t *testing.T) {
	x := New()
	want := []api.Timer{{ID: 1, At: 10}, {ID: 2, At: 10}, {ID: 3, At: 20}}
	for _, y := range append(want, api.Timer{ID: 4, At: 30}) {
		x.Set(y.ID, y.At)
	}
	first := x.Due(20)
	if !slices.Equal(first, want) {
		t.Fatalf("Due(20) = %v, want %v", first, want)
	}
	for i := range 200 {
		x.Set(i+10, 25)
	}
	x.Set(1, 26)
	second := x.Due(25)
	x.Stop(1)
	if !slices.Equal(first, want) {
		t.Errorf("the timers were changed, and so was what they had answered: %v", first)
	}
	clear(first[:cap(first)])
	for i, y := range second {
		if y != (api.Timer{ID: i + 10, At: 25}) {
			t.Fatalf("one answer was changed, and so was the other: %v", second)
		}
	}
	clear(second[:cap(second)])
	wantLen(t, x, 1)
	wantDue(t, x, 30, api.Timer{ID: 4, At: 30})
}

// P10.2: Next with none, with one, with several; behind a Set that is earlier than all, and one that is not; behind a Stop of the earliest, and of another one; behind a Due of none, of some, of all.
func TestNext(t *testing.T) {
	x := New()
	wantNothing(t, x)
	x.Set(5, 50)
	wantNext(t, x, 50)
	x.Set(6, 60)
	wantNext(t, x, 50)
	x.Set(4, 40)
	wantNext(t, x, 40)
	x.Set(3, 40)
	wantNext(t, x, 40)
	x.Stop(3)
	wantNext(t, x, 40)
	x.Stop(4)
	wantNext(t, x, 50)
	x.Stop(6)
	wantNext(t, x, 50)
	x.Set(5, 70)
	wantNext(t, x, 70)
	x.Set(6, 0)
	wantNext(t, x, 0)
	wantDue(t, x, -1)
	wantNext(t, x, 0)
	wantDue(t, x, 69, api.Timer{ID: 6, At: 0})
	wantNext(t, x, 70)
	x.Set(7, latest)
	wantNext(t, x, 70)
	wantDue(t, x, 70, api.Timer{ID: 5, At: 70})
	wantNext(t, x, latest)
	wantDue(t, x, latest, api.Timer{ID: 7, At: latest})
	wantNothing(t, x)
}

// P10.2: a time of 0 is not none.
func TestNextAt0(t *testing.T) {
	x := New()
	x.Set(0, 0)
	wantNext(t, x, 0)
	wantLen(t, x, 1)
	x.Set(1, 5)
	wantNext(t, x, 0)
	wantErrno(t, "Stop", x.Stop(0), api.OK)
	wantNext(t, x, 5)
}

// R5: to ask changes nothing, and one knows nothing of another one.
func TestApart(t *testing.T) {
	x, y := New(), New()
	x.Set(1, 10)
	y.Set(1, 20)
	y.Set(2, 30)
	for range 3 {
		wantLen(t, x, 1)
		wantLen(t, y, 2)
		wantNext(t, x, 10)
		wantNext(t, y, 20)
	}
	wantErrno(t, "Stop in another one", x.Stop(2), api.ErrNone)
	wantDue(t, x, 100, api.Timer{ID: 1, At: 10})
	wantDue(t, y, 100, api.Timer{ID: 1, At: 20}, api.Timer{ID: 2, At: 30})
	b := full(t)
	wantErrno(t, "Set beside a full one", x.Set(9, 9), api.OK)
	wantErrno(t, "Set in a full one", b.set(999, 9), api.ErrFull)
}

// step is a call, and what it answered.
type step struct {
	kind  byte // s: Set, p: Stop, d: Due
	timer api.Timer
	now   int
	err   api.Errno
	due   []api.Timer
}

// end is the place of the step at which a Set is over: that which stops it, sets it anew, or has its time come.
func end(steps []step, from int) int {
	x := steps[from].timer
	for i := from + 1; i < len(steps); i++ {
		s := steps[i]
		over := s.err == api.OK && s.timer.ID == x.ID
		if s.kind == 'd' {
			over = s.now >= x.At
		}
		if over {
			return i
		}
	}
	return len(steps)
}

// checkOnce holds P10.3 for a row of calls: what was set is due once, when its time has come, if nothing else was its end, and nothing else is due.
func checkOnce(t *testing.T, steps []step) {
	t.Helper()
	want, got := 0, 0
	for i, s := range steps {
		got += len(s.due)
		if s.kind != 's' || s.err != api.OK {
			continue
		}
		e := end(steps, i)
		if e == len(steps) || steps[e].kind != 'd' {
			continue
		}
		want++
		count := 0
		for _, x := range steps[e].due {
			if x == s.timer {
				count++
			}
		}
		if count != 1 {
			t.Fatalf("%v was set, and is due at %d %d times, want once", s.timer, steps[e].now, count)
		}
	}
	if got != want {
		t.Fatalf("%d were due, want %d", got, want)
	}
}

// P10.3: many rows of Sets and Stops, and rising times.
func TestOnce(t *testing.T) {
	c := chance(3)
	for round := range 300 {
		x := New()
		ids := 1 + c.next(round+2)
		var steps []step
		now := 0
		for range 400 {
			s := step{kind: some(&c, []byte("ssspd")), timer: api.Timer{ID: c.next(ids) - ids/2}}
			switch s.kind {
			case 's':
				s.timer.At = max(0, now+c.next(30)-5)
				s.err = x.Set(s.timer.ID, s.timer.At)
			case 'p':
				s.err = x.Stop(s.timer.ID)
			case 'd':
				now += c.next(8)
				s.now = now
				s.due = x.Due(now)
			}
			steps = append(steps, s)
		}
		steps = append(steps, step{kind: 'd', now: latest, due: x.Due(latest)})
		checkOnce(t, steps)
		wantNothing(t, x)
	}
}

// P10.1 to P10.3: many calls in any order, all held against the list, with few ids and with more than there is room for.
func TestManyCalls(t *testing.T) {
	c := chance(4)
	for round := range 60 {
		b := newBoth(t)
		ids := some(&c, []int{2, 9, 100, 300, 600})
		now := 0
		for range 500 {
			id := c.next(ids) - ids/2
			switch c.next(16) {
			case 0, 1:
				b.stop(id)
			case 2:
				wantErrno(t, "Set of a time that may not be", b.set(id, some(&c, wrongTimes)), api.ErrArg)
			case 3:
				b.set(id, some(&c, mayTimes))
			case 4:
				if ids < 300 {
					now += c.next(40)
				}
				b.due(now)
			default:
				b.set(id, now+c.next(100+round))
			}
		}
		if ids == 600 && b.fast.Len() < 200 {
			t.Errorf("only %d will fire: the row is too easy", b.fast.Len())
		}
		b.due(latest)
		wantNothing(t, b.fast)
		if len(b.fast.times) != 0 {
			t.Fatalf("nothing will fire, but %d are kept", len(b.fast.times))
		}
	}
}

// The chapter's example.
func TestExamples(t *testing.T) {
	x := New()
	for _, y := range []api.Timer{{ID: 1, At: 10}, {ID: 2, At: 5}, {ID: 3, At: 10}} {
		wantErrno(t, "Set", x.Set(y.ID, y.At), api.OK)
	}
	wantDue(t, x, 10, api.Timer{ID: 2, At: 5}, api.Timer{ID: 1, At: 10}, api.Timer{ID: 3, At: 10})
	wantDue(t, x, 20)
	wantNothing(t, x)
}

// P1, R1: no call panics, at any argument, and all keep to their promises; the steps are three bytes each.
func FuzzCalls(f *testing.F) {
	f.Add([]byte{0, 1, 10, 0, 2, 5, 0, 3, 10, 3, 0, 10}, 1, 10, 20)
	f.Add([]byte{0, 1, 10, 2, 1, 0, 0, 1, 9, 3, 0, 255}, -1, -1, -1)
	f.Add([]byte{4, 0, 0, 0, 1, 1, 2, 4, 0}, math.MinInt, math.MinInt, math.MinInt)
	f.Add([]byte{4, 3, 0, 0, 255, 255}, math.MaxInt, math.MaxInt, math.MaxInt)
	f.Add([]byte{4, 9, 0, 4, 9, 200, 0, 1, 1}, 0, latest, latest)
	f.Add([]byte{4, 9, 0, 4, 9, 200}, 0, latest+1, latest+1)
	f.Fuzz(func(t *testing.T, steps []byte, id, at, now int) {
		b := newBoth(t)
		for count := 0; len(steps) >= 3 && count < 100; count++ {
			kind, x, y := steps[0], int(steps[1])-128, int(steps[2])
			steps = steps[3:]
			switch kind % 5 {
			case 0, 1:
				b.set(x, y-1)
			case 2:
				b.stop(x)
			case 3:
				b.due(y - 1)
			default:
				for i := range 140 {
					b.slow.set(x*100+i, y+i%7)
					b.fast.Set(x*100+i, y+i%7)
				}
				b.check()
			}
		}
		b.set(id, at)
		b.due(now)
		b.stop(id)
		b.set(id, now)
		b.set(at, id)
		b.due(at)
		b.due(id)
		b.stop(at)
	})
}
