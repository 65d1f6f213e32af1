package level_test

import (
	"math"
	"slices"
	"testing"

	"clockwork/level"
)

// P15.2: the same item is put once, until it is removed.
func TestPutTwice(t *testing.T) {
	for n := range levels {
		l := level.New(n)
		x := level.Item{ID: 7, At: 130}
		put(t, l, x)
		if l.Put(x) || l.Count() != 1 {
			t.Errorf("level %d: put twice, or %d items", n, l.Count())
		}
		if !l.Remove(x) || l.Remove(x) || l.Count() != 0 || l.First(0) != -1 {
			t.Errorf("level %d: not removed once, or %d items", n, l.Count())
		}
		put(t, l, x)
		if l.Put(x) {
			t.Errorf("level %d: put twice behind Remove", n)
		}
		gives(t, l, slowSlot(n, 130), x)
		if l.Remove(x) {
			t.Errorf("level %d: removed behind Take", n)
		}
		put(t, l, x)
		gives(t, l, slowSlot(n, 130), x)
	}
}

// P15.2: items that differ in one field are different ones, also in the same slot.
func TestNearItems(t *testing.T) {
	for n := range levels {
		x := level.Item{ID: 7, At: 130}
		others := []level.Item{
			{ID: 6, At: 130}, {ID: 8, At: 130}, {ID: 0, At: 130}, {ID: math.MaxUint64, At: 130}, {ID: 130, At: 7},
			{ID: 7, At: 129}, {ID: 7, At: 131}, {ID: 7, At: 130 + power(n+1)}, {ID: 7, At: 130 + 1<<63}, {ID: 7 + 1<<32, At: 130},
		}
		l := filled(t, n, x)
		for _, y := range others {
			if l.Remove(y) || l.Count() != 1 {
				t.Errorf("level %d: %+v is there", n, y)
			}
		}
		put(t, l, others...)
		if l.Count() != len(others)+1 {
			t.Errorf("level %d: %d items", n, l.Count())
		}
		for i, y := range others {
			if l.Put(y) || !l.Remove(y) || l.Remove(y) || l.Count() != len(others)-i {
				t.Errorf("level %d: %+v is not there once, or %d items", n, y, l.Count())
			}
		}
		gives(t, l, slowSlot(n, 130), x)
	}
}

// P15.2: Remove of what is not there changes nothing, wherever in the order it would be.
func TestRemoveNothing(t *testing.T) {
	items := []level.Item{{ID: 2, At: 2}, {ID: 4, At: 2}, {ID: 2, At: 66}, {ID: 4, At: 66}}
	l := filled(t, 0, items...)
	for _, x := range []level.Item{{ID: 1, At: 2}, {ID: 3, At: 2}, {ID: 5, At: 2}, {ID: 3, At: 66}, {ID: 5, At: 66}, {ID: 2, At: 130}, {ID: 2, At: 3}} {
		if l.Remove(x) || l.Count() != len(items) {
			t.Errorf("%+v is there, or %d items", x, l.Count())
		}
	}
	gives(t, l, 2, items...)
}

// P15.2: a slot is taken in order, whichever order its items are put in; those of other slots stay.
func TestTakeOrder(t *testing.T) {
	want := []level.Item{
		{ID: 0, At: 128}, {ID: math.MaxUint64, At: 128}, {ID: 9, At: 129}, {ID: 1, At: 130}, {ID: 2, At: 130},
		{ID: 1 << 63, At: 130}, {ID: 0, At: 191}, {ID: 3, At: 128 + 4096}, {ID: 1, At: 1<<63 + 130}, {ID: 0, At: math.MaxUint64 - 61*64},
	}
	others := []level.Item{{ID: 1, At: 127}, {ID: 1, At: 192}, {ID: 2, At: 0}, {ID: 2, At: 4095}, {ID: 1, At: 64 + 8192}}
	r := newRandom()
	for range 200 {
		l := level.New(1)
		items := slices.Concat(want, others)
		r.Shuffle(len(items), func(i, j int) { items[i], items[j] = items[j], items[i] })
		put(t, l, items...)
		gives(t, l, 2, want...)
		if l.Count() != len(others) {
			t.Errorf("%d items behind Take", l.Count())
		}
		gives(t, l, 1, others[0], others[4])
		gives(t, l, 3, others[1])
		gives(t, l, 0, others[2])
		gives(t, l, 63, others[3])
		if l.Count() != 0 || l.First(0) != -1 {
			t.Errorf("%d items at the end", l.Count())
		}
	}
}

// P15.2: there is nothing to take where there is no slot, or where it has no items.
func TestTakeNothing(t *testing.T) {
	for n := range levels {
		l := filled(t, n, level.Item{ID: 1}, level.Item{ID: 2, At: math.MaxUint64}, level.Item{ID: 3, At: 5 * power(n)})
		for _, slot := range append(someNoSlots(), 1, 2, 4, 6, 31, 62) {
			if got := l.Take(slot); len(got) != 0 || l.Count() != 3 {
				t.Errorf("level %d: Take(%d) = %v, and %d items", n, slot, got, l.Count())
			}
		}
	}
}

// P15.3: each slot alone, and from each number on.
func TestFirstAlone(t *testing.T) {
	for n := range levels {
		for slot := range level.Slots {
			x := level.Item{ID: 1, At: slowStart(n, 1<<40, slot)}
			l := filled(t, n, x)
			for from := range level.Slots {
				want := slot
				if from > slot {
					want = -1
				}
				if got := l.First(from); got != want {
					t.Errorf("level %d: First(%d) = %d, want %d", n, from, got, want)
				}
			}
			for _, from := range someNoSlots() {
				want := slot
				if from > 0 {
					want = -1
				}
				if got := l.First(from); got != want {
					t.Errorf("level %d: First(%d) = %d, want %d", n, from, got, want)
				}
			}
			l.Remove(x)
			if got := l.First(0); got != -1 {
				t.Errorf("level %d: First(0) = %d behind Remove", n, got)
			}
		}
	}
}

// P15.3: the least of several slots, until their last items are gone.
func TestFirstOfSeveral(t *testing.T) {
	l := filled(t, 0, level.Item{ID: 1, At: 3}, level.Item{ID: 2, At: 3}, level.Item{ID: 1, At: 40}, level.Item{ID: 1, At: 63})
	is := func(from, want int) {
		t.Helper()
		if got := l.First(from); got != want {
			t.Errorf("First(%d) = %d, want %d", from, got, want)
		}
	}
	is(0, 3)
	is(-1, 3)
	is(4, 40)
	is(41, 63)
	is(64, -1)
	l.Remove(level.Item{ID: 1, At: 3})
	is(0, 3)
	l.Remove(level.Item{ID: 2, At: 3})
	is(0, 40)
	is(math.MinInt, 40)
	l.Take(40)
	is(0, 63)
	l.Take(63)
	is(0, -1)
	put(t, l, level.Item{ID: 5, At: 64})
	is(0, 0)
	is(1, -1)
}

// P15.2: many items in one slot.
func TestManyItems(t *testing.T) {
	const count = 20000
	var want []level.Item
	for i := range uint64(count) {
		want = append(want, level.Item{ID: i % 3, At: 7<<18 + i/3})
	}
	items := slices.Clone(want)
	for _, change := range []func(){
		func() {},
		func() { slices.Reverse(items) },
		func() { newRandom().Shuffle(count, func(i, j int) { items[i], items[j] = items[j], items[i] }) },
	} {
		change()
		l := filled(t, 3, items...)
		if l.Count() != count || l.First(0) != 7 || l.First(8) != -1 {
			t.Errorf("%d items, from %d on", l.Count(), l.First(0))
		}
		for _, x := range items[:100] {
			if l.Put(x) || !l.Remove(x) || !l.Put(x) {
				t.Errorf("%+v is not there once", x)
			}
		}
		gives(t, l, 7, want...)
	}
}

// P2: levels are independent of each other.
func TestLevelsApart(t *testing.T) {
	x, y := level.Item{ID: 1, At: 130}, level.Item{ID: 2, At: 130}
	a, b, c := level.New(1), level.New(1), level.New(0)
	put(t, a, x)
	put(t, b, x, y)
	if a.Count() != 1 || b.Count() != 2 || c.Count() != 0 || a.Remove(y) || c.Remove(x) {
		t.Errorf("%d, %d and %d items", a.Count(), b.Count(), c.Count())
	}
	gives(t, b, 2, x, y)
	gives(t, c, 2)
	gives(t, a, 2, x)
}

// Rule 4: what Take returned shares no memory with the level, or with the result of another call.
func TestTakenApart(t *testing.T) {
	items := []level.Item{{ID: 1, At: 130}, {ID: 2, At: 130}, {ID: 3, At: 131}, {ID: 4, At: 140}}
	l := filled(t, 1, items...)
	l.Remove(items[3])
	first := l.Take(2)
	kept := slices.Clone(first)
	more := []level.Item{{ID: 8, At: 150}, {ID: 9, At: 150}}
	put(t, l, more...)
	if !slices.Equal(first, kept) {
		t.Errorf("a later Put changed what Take returned: %v, want %v", first, kept)
	}
	whole := append(first, level.Item{ID: 77})
	for i := range whole {
		whole[i] = level.Item{ID: 77, At: 77}
	}
	if l.Count() != 2 || l.Put(more[0]) || l.Put(more[1]) {
		t.Errorf("the level was changed: %d items", l.Count())
	}
	second := l.Take(2)
	clear(first)
	if !slices.Equal(second, more) {
		t.Errorf("Take(2) = %v, want %v", second, more)
	}
}
