package wheel_test

import (
	"math"
	"slices"
	"testing"

	"clockwork/api"
	"clockwork/level"
	"clockwork/wheel"
)

func item(id, at uint64) level.Item { return level.Item{ID: id, At: at} }

// schedule fails the test unless all timers are added.
func schedule(t *testing.T, w *wheel.Wheel, items ...level.Item) {
	t.Helper()
	for _, x := range items {
		if code := w.Schedule(x.ID, x.At); code != api.OK {
			t.Errorf("Schedule(%d, %d) = %v", x.ID, x.At, code)
		}
	}
}

// fires fails the test unless Advance returns some timers.
func fires(t *testing.T, w *wheel.Wheel, now uint64, want ...level.Item) {
	t.Helper()
	got, code := w.Advance(now)
	if !slices.Equal(got, want) || code != api.OK {
		t.Errorf("Advance(%d) = %v, %v, want %v", now, got, code, want)
	}
	if w.Now() != now {
		t.Errorf("now %d behind Advance(%d)", w.Now(), now)
	}
}

// next fails the test unless the least deadline is the given one, also when it is asked for again.
func next(t *testing.T, w *wheel.Wheel, want uint64) {
	t.Helper()
	for range 2 {
		if at, ok := w.Next(); at != want || !ok {
			t.Errorf("Next() = %d, %v, want %d", at, ok, want)
		}
	}
}

// empty fails the test unless there are no timers.
func empty(t *testing.T, w *wheel.Wheel) {
	t.Helper()
	if at, ok := w.Next(); at != 0 || ok || w.Count() != 0 {
		t.Errorf("Next() = %d, %v, and %d timers", at, ok, w.Count())
	}
}

// The example of the chapter.
func TestExample(t *testing.T) {
	w := wheel.New(0)
	schedule(t, w, item(1, 100), item(2, 50))
	fires(t, w, 70, item(2, 50))
	next(t, w, 100)
}

// P16.1: New returns a wheel at a tick, which is at most the greatest one.
func TestNew(t *testing.T) {
	for _, c := range []struct{ now, want uint64 }{
		{0, 0}, {1, 1}, {63, 63}, {64, 64}, {1 << 24, 1 << 24}, {1 << 48, 1 << 48}, {api.MaxTick - 1, api.MaxTick - 1}, {api.MaxTick, api.MaxTick},
		{1 << 63, api.MaxTick}, {1<<63 + 5, api.MaxTick}, {math.MaxUint64, api.MaxTick},
	} {
		w := wheel.New(c.now)
		if w == nil || w.Now() != c.want {
			t.Fatalf("New(%d) is a wheel at %d, want %d", c.now, w.Now(), c.want)
		}
		empty(t, w)
		if w.Has(0) || w.Has(c.now) {
			t.Errorf("New(%d) has a timer", c.now)
		}
		fires(t, w, c.want)
	}
}

// P16.1: a deadline that is too great comes before an ID that is there already, and neither changes anything.
func TestScheduleErrors(t *testing.T) {
	w := wheel.New(10)
	schedule(t, w, item(1, 100), item(2, api.MaxTick))
	for _, c := range []struct {
		id, at uint64
		want   api.Code
	}{
		{3, 1 << 63, api.ErrRange}, {3, math.MaxUint64, api.ErrRange}, {1, 1 << 63, api.ErrRange}, {2, math.MaxUint64, api.ErrRange},
		{1, 100, api.ErrTwice}, {1, 50, api.ErrTwice}, {1, 5, api.ErrTwice}, {1, api.MaxTick, api.ErrTwice}, {2, 100, api.ErrTwice}, {2, 0, api.ErrTwice},
	} {
		if code := w.Schedule(c.id, c.at); code != c.want {
			t.Errorf("Schedule(%d, %d) = %v, want %v", c.id, c.at, code, c.want)
		}
		next(t, w, 100)
		if w.Count() != 2 || w.Has(3) || !w.Has(1) || !w.Has(2) || w.Now() != 10 {
			t.Errorf("Schedule(%d, %d) has changed the wheel", c.id, c.at)
		}
	}
	fires(t, w, api.MaxTick, item(1, 100), item(2, api.MaxTick))
	empty(t, w)
}

// P16.1: IDs are arbitrary, and those of timers that are gone may be used again.
func TestIDs(t *testing.T) {
	ids := []uint64{0, 1, 63, 64, 1 << 32, 1 << 63, math.MaxUint64 - 1, math.MaxUint64}
	w := wheel.New(0)
	for round := range uint64(3) {
		var want []level.Item
		for _, id := range ids {
			want = append(want, item(id, 100*round+7))
		}
		schedule(t, w, want...)
		for _, id := range ids {
			if !w.Has(id) || w.Schedule(id, 1) != api.ErrTwice {
				t.Errorf("%d is not there", id)
			}
		}
		if w.Has(2) || w.Has(1<<32+1) || w.Has(1<<63-1) || w.Count() != len(ids) {
			t.Errorf("%d timers", w.Count())
		}
		fires(t, w, 100*round+7, want...)
		for _, id := range ids {
			if w.Has(id) || w.Cancel(id) != api.ErrName {
				t.Errorf("%d is still there", id)
			}
		}
	}
}

// P16.1 and P16.3: deadlines that are over, or are now, are due at the next Advance, in the order of the deadlines.
func TestOver(t *testing.T) {
	for _, now := range []uint64{130, 4096, 5000, 1<<24 + 5, 1 << 48, api.MaxTick} {
		for _, later := range []uint64{now, min(now+1, api.MaxTick), min(now+64, api.MaxTick), api.MaxTick} {
			w := wheel.New(now)
			schedule(t, w, item(1, now))
			next(t, w, now)
			schedule(t, w, item(2, now-1))
			next(t, w, now-1)
			schedule(t, w, item(0, now-1), item(3, 0), item(9, 127), item(4, 64), item(8, now))
			next(t, w, 0)
			if w.Cancel(9) != api.OK || w.Cancel(9) != api.ErrName {
				t.Error("a deadline that is over is not cancelled once")
			}
			fires(t, w, later, item(3, 0), item(4, 64), item(0, now-1), item(2, now-1), item(1, now), item(8, now))
			empty(t, w)
		}
	}
}

// P16.2: each timer is cancelled once, wherever it is, and does not fire then.
func TestCancel(t *testing.T) {
	ats := someTicks()
	for _, now := range []uint64{0, 63, 64, 5000, 1<<24 - 1, 1 << 40, api.MaxTick} {
		w := wheel.New(now)
		for i, at := range ats {
			schedule(t, w, item(uint64(i), at))
		}
		var left []level.Item
		for i, at := range ats {
			id := uint64(i)
			if i%3 == 0 {
				left = append(left, item(id, at))
				continue
			}
			if w.Cancel(id+uint64(len(ats))) != api.ErrName || w.Cancel(id) != api.OK || w.Cancel(id) != api.ErrName || w.Has(id) {
				t.Errorf("%d, due at %d, is not cancelled once at %d", id, at, now)
			}
		}
		if w.Count() != len(left) || w.Now() != now {
			t.Errorf("%d timers at %d, want %d at %d", w.Count(), w.Now(), len(left), now)
		}
		next(t, w, left[0].At)
		fires(t, w, api.MaxTick, left...)
		empty(t, w)
	}
}

// P16.2: a timer that is cancelled may be scheduled again, and fires at its new deadline only.
func TestAgain(t *testing.T) {
	for _, first := range someTicks() {
		for _, second := range []uint64{0, 9, 10, 11, 70, 5000, 1 << 30, api.MaxTick} {
			w := wheel.New(10)
			schedule(t, w, item(1, first))
			if w.Cancel(1) != api.OK {
				t.Errorf("%d is not cancelled", first)
			}
			empty(t, w)
			schedule(t, w, item(1, second))
			next(t, w, second)
			if second > 10 {
				fires(t, w, second-1)
			}
			fires(t, w, max(second, 10), item(1, second))
			fires(t, w, api.MaxTick)
		}
	}
}

// P16.2: timers are cancelled behind Advance, which has moved them to lower levels.
func TestCancelMoved(t *testing.T) {
	at := uint64(5<<60 + 13<<54 + 17<<48 + 19<<42 + 23<<36 + 29<<30 + 31<<24 + 37<<18 + 41<<12 + 43<<6 + 47)
	for shift := 60; shift > 0; shift -= 6 {
		w := wheel.New(0)
		schedule(t, w, item(1, at), item(2, at), item(3, at+1))
		start := at >> shift << shift
		for _, now := range []uint64{start - 1, start} {
			fires(t, w, now)
			next(t, w, at)
		}
		if w.Cancel(1) != api.OK || w.Cancel(1) != api.ErrName || w.Count() != 2 {
			t.Errorf("not cancelled once at %d", start)
		}
		fires(t, w, at, item(2, at))
		fires(t, w, at+1, item(3, at+1))
	}
}

// P16.3: a tick that is too great or over changes nothing.
func TestAdvanceErrors(t *testing.T) {
	w := wheel.New(100)
	schedule(t, w, item(1, 50), item(2, 100), item(3, 101))
	for _, c := range []struct {
		now  uint64
		want api.Code
	}{
		{99, api.ErrOrder}, {50, api.ErrOrder}, {0, api.ErrOrder}, {1 << 63, api.ErrRange}, {1<<63 + 100, api.ErrRange}, {math.MaxUint64, api.ErrRange},
	} {
		if got, code := w.Advance(c.now); len(got) != 0 || code != c.want {
			t.Errorf("Advance(%d) = %v, %v, want %v", c.now, got, code, c.want)
		}
		if w.Now() != 100 || w.Count() != 3 {
			t.Errorf("Advance(%d) has changed the wheel", c.now)
		}
		next(t, w, 50)
	}
	fires(t, w, 100, item(1, 50), item(2, 100))
	if got, code := w.Advance(99); len(got) != 0 || code != api.ErrOrder {
		t.Errorf("Advance(99) = %v, %v", got, code)
	}
	fires(t, w, 100)
	fires(t, w, 101, item(3, 101))
	fires(t, w, api.MaxTick)
	if got, code := w.Advance(api.MaxTick - 1); len(got) != 0 || code != api.ErrOrder {
		t.Errorf("Advance(MaxTick - 1) = %v, %v", got, code)
	}
	if got, code := w.Advance(api.MaxTick + 1); len(got) != 0 || code != api.ErrRange {
		t.Errorf("Advance(MaxTick + 1) = %v, %v", got, code)
	}
}

// P16.3: from any tick on, a timer fires at its deadline, neither before nor behind it.
func TestAlone(t *testing.T) {
	ticks := someTicks()
	for _, now := range ticks {
		for _, at := range ticks {
			w := wheel.New(now)
			schedule(t, w, item(7, at))
			next(t, w, at)
			if at > now {
				fires(t, w, at-1)
				next(t, w, at)
			}
			fires(t, w, max(now, at), item(7, at))
			empty(t, w)
		}
	}
}

// P16.3 and P16.4: all timers at once fire in order, whichever order they are scheduled in.
func TestOrder(t *testing.T) {
	r := newRandom()
	var want []level.Item
	for i, at := range someTicks() {
		for _, id := range []uint64{uint64(i), 1<<63 + uint64(i), math.MaxUint64 - uint64(i)} {
			want = append(want, item(id, at))
		}
	}
	for range 20 {
		items := slices.Clone(want)
		r.Shuffle(len(items), func(i, j int) { items[i], items[j] = items[j], items[i] })
		w := wheel.New(r.Uint64() >> r.IntN(64))
		for i, x := range items {
			schedule(t, w, x)
			if w.Count() != i+1 || !w.Has(x.ID) {
				t.Errorf("%d timers, want %d", w.Count(), i+1)
			}
		}
		next(t, w, 0)
		fires(t, w, api.MaxTick, want...)
		empty(t, w)
	}
}

// P16.4: the least deadline, while the least timer is gone again and again.
func TestNext(t *testing.T) {
	ticks := someTicks()
	w := wheel.New(40)
	for i := range ticks {
		at := ticks[len(ticks)-1-i]
		schedule(t, w, item(at, at))
		next(t, w, at)
	}
	for i, at := range ticks {
		next(t, w, at)
		if i%2 == 0 {
			fires(t, w, max(w.Now(), at), dueAt(ticks, i, max(w.Now(), at))...)
			for _, x := range dueAt(ticks, i, w.Now()) {
				schedule(t, w, x)
			}
		}
		if w.Cancel(at) != api.OK || w.Count() != len(ticks)-1-i {
			t.Errorf("%d is not cancelled, or %d timers", at, w.Count())
		}
	}
	empty(t, w)
}

// dueAt returns the timers from the i-th one on that are due at a tick.
func dueAt(ticks []uint64, i int, now uint64) []level.Item {
	var due []level.Item
	for _, at := range ticks[i:] {
		if at <= now {
			due = append(due, item(at, at))
		}
	}
	return due
}

// P16.4: Next changes nothing: in a slot with timers of several deadlines, all of them fire at their own.
func TestNextKeeps(t *testing.T) {
	for _, unit := range []uint64{1, 64, 4096, 1 << 18, 1 << 24, 1 << 30, 1 << 36, 1 << 48, 1 << 57} {
		w := wheel.New(0)
		first := 7*unit + unit/2
		for _, x := range []level.Item{item(4, first+3), item(1, first+1), item(3, first), item(2, first), item(5, first+unit)} {
			schedule(t, w, x)
			w.Next()
		}
		next(t, w, first)
		if w.Count() != 5 || w.Now() != 0 || w.Schedule(4, 1) != api.ErrTwice {
			t.Errorf("%d timers at %d", w.Count(), w.Now())
		}
		if w.Cancel(3) != api.OK || w.Cancel(2) != api.OK {
			t.Error("a timer behind Next is not cancelled")
		}
		next(t, w, first+1)
		fires(t, w, first)
		fires(t, w, api.MaxTick, sorted(item(1, first+1), item(4, first+3), item(5, first+unit))...)
	}
}

// sorted returns timers in the order in which they fire.
func sorted(items ...level.Item) []level.Item {
	slices.SortFunc(items, level.Compare)
	return items
}

// All functions of a nil Wheel return ErrNil or zero values.
func TestNil(t *testing.T) {
	var w *wheel.Wheel
	for _, n := range []uint64{0, 1, api.MaxTick, 1 << 63, math.MaxUint64} {
		if w.Schedule(n, n) != api.ErrNil || w.Cancel(n) != api.ErrNil || w.Has(n) {
			t.Errorf("a nil Wheel has %d", n)
		}
		if got, code := w.Advance(n); len(got) != 0 || code != api.ErrNil {
			t.Errorf("Advance(%d) = %v, %v", n, got, code)
		}
	}
	if w.Now() != 0 {
		t.Errorf("now %d", w.Now())
	}
	empty(t, w)
}

// P2: wheels are independent of each other.
func TestWheelsApart(t *testing.T) {
	a, b := wheel.New(0), wheel.New(0)
	schedule(t, a, item(1, 100), item(2, 200))
	schedule(t, b, item(1, 300))
	fires(t, a, 150, item(1, 100))
	if b.Now() != 0 || b.Count() != 1 || b.Has(2) || b.Cancel(2) != api.ErrName || !b.Has(1) || a.Has(1) {
		t.Error("the wheels are not apart")
	}
	fires(t, b, 1000, item(1, 300))
	next(t, a, 200)
}

// Rule 4: what Advance returned shares no memory with the wheel, or with the result of another call.
func TestFiredApart(t *testing.T) {
	w := wheel.New(0)
	want := []level.Item{item(3, 8), item(4, 9), item(5, 70), item(6, 5000)}
	schedule(t, w, item(1, 5), item(2, 6))
	schedule(t, w, want...)
	first, _ := w.Advance(7)
	whole := first[:cap(first)]
	for i := range whole {
		whole[i] = item(77, 77)
	}
	next(t, w, 8)
	second, _ := w.Advance(9)
	kept := slices.Clone(second)
	clear(whole)
	schedule(t, w, item(1, 71), item(2, 71))
	if third, _ := w.Advance(80); !slices.Equal(third, []level.Item{want[2], item(1, 71), item(2, 71)}) {
		t.Errorf("Advance(80) = %v", third)
	}
	if !slices.Equal(second, kept) || !slices.Equal(second, want[:2]) {
		t.Errorf("Advance(9) = %v, which is %v later", kept, second)
	}
	fires(t, w, 5000, want[3])
}
