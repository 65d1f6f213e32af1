package level_test

import (
	"math"
	"math/rand/v2"
	"slices"
	"testing"

	"clockwork/level"
)

// levels is the number of levels, of which the last one is levels - 1.
const levels = 4

func newRandom() *rand.Rand { return rand.New(rand.NewPCG(15, 44)) }

// someTicks are the first and the last ones of slots and turns, and their neighbors.
func someTicks() []uint64 {
	ticks := []uint64{130, 5000, 1 << 62, math.MaxInt64 - 1, math.MaxInt64, 1 << 63, 1<<63 + 1, 0x0123456789ABCDEF}
	for shift := 0; shift < 64; shift += 6 {
		for _, factor := range []uint64{0, 1, 2, 3, 31, 32, 33, 62, 63, 64, 65, 127, 128} {
			at := factor << shift
			ticks = append(ticks, at-1, at, at+1, -at-1, -at, -at+1)
		}
	}
	slices.Sort(ticks)
	return slices.Compact(ticks)
}

// someNoSlots are numbers of no slots.
func someNoSlots() []int {
	return []int{math.MinInt, math.MinInt + 1, -1 << 32, -65, -64, -2, -1, 64, 65, 127, 128, 1 << 32, math.MaxInt - 1, math.MaxInt}
}

// power returns 64 to the power of n.
func power(n int) uint64 {
	p := uint64(1)
	for range n {
		p *= 64
	}
	return p
}

// slowSlot, slowFits and slowStart say what the chapter says, with divisions.
func slowSlot(n int, at uint64) int             { return int(at / power(n) % 64) }
func slowFits(n int, now, at uint64) bool       { return now/power(n+1) == at/power(n+1) }
func slowStart(n int, now uint64, s int) uint64 { return now - now%power(n+1) + uint64(s)*power(n) }

// put fails the test unless the items were not there.
func put(t *testing.T, l *level.Level, items ...level.Item) {
	t.Helper()
	for _, x := range items {
		if !l.Put(x) {
			t.Errorf("%+v is there already", x)
		}
	}
}

// filled returns a level with some items.
func filled(t *testing.T, n int, items ...level.Item) *level.Level {
	t.Helper()
	l := level.New(n)
	put(t, l, items...)
	return l
}

// gives fails the test unless Take of a slot returns some items, and nothing when it is called again.
func gives(t *testing.T, l *level.Level, slot int, want ...level.Item) {
	t.Helper()
	if got := l.Take(slot); !slices.Equal(got, want) {
		t.Errorf("Take(%d) = %v, want %v", slot, got, want)
	}
	if got := l.Take(slot); len(got) != 0 {
		t.Errorf("Take(%d) again = %v", slot, got)
	}
}

// P15.1: New refuses numbers that are out of range.
func TestNew(t *testing.T) {
	for n := range levels {
		if l := level.New(n); l == nil || l.Count() != 0 || l.First(0) != -1 {
			t.Errorf("New(%d) is no level without items", n)
		}
	}
	for _, n := range []int{math.MinInt, -1 << 32, -64, -2, -1, 4, 5, 6, 10, 64, 1 << 32, 1<<32 + 1, math.MaxInt} {
		if l := level.New(n); l != nil {
			t.Errorf("New(%d) is a level", n)
		}
	}
	if level.Slots != 64 {
		t.Errorf("a level has %d slots", level.Slots)
	}
}

// P15.1: slots that are written out.
func TestSlotKnown(t *testing.T) {
	for _, c := range []struct {
		at    uint64
		slots [levels]int
	}{
		{0, [levels]int{0, 0, 0, 0}},
		{1, [levels]int{1, 0, 0, 0}},
		{63, [levels]int{63, 0, 0, 0}},
		{64, [levels]int{0, 1, 0, 0}},
		{65, [levels]int{1, 1, 0, 0}},
		{130, [levels]int{2, 2, 0, 0}},
		{4095, [levels]int{63, 63, 0, 0}},
		{4096, [levels]int{0, 0, 1, 0}},
		{5000, [levels]int{8, 14, 1, 0}},
		{1<<18 - 1, [levels]int{63, 63, 63, 0}},
		{1 << 18, [levels]int{0, 0, 0, 1}},
		{1<<24 - 1, [levels]int{63, 63, 63, 63}},
		{1 << 24, [levels]int{0, 0, 0, 0}},
		{1<<24 + 3<<18 + 5<<12 + 7<<6 + 9, [levels]int{9, 7, 5, 3}},
		{1<<63 + 62<<18 + 61<<12 + 60<<6 + 59, [levels]int{59, 60, 61, 62}},
		{math.MaxInt64, [levels]int{63, 63, 63, 63}},
		{1 << 63, [levels]int{0, 0, 0, 0}},
		{math.MaxUint64, [levels]int{63, 63, 63, 63}},
		{math.MaxUint64 - 64, [levels]int{63, 62, 63, 63}},
	} {
		for n, want := range c.slots {
			if got := level.New(n).Slot(c.at); got != want {
				t.Errorf("level %d: Slot(%d) = %d, want %d", n, c.at, got, want)
			}
		}
	}
}

// P15.1: turns that are written out.
func TestFitsKnown(t *testing.T) {
	for _, c := range []struct {
		n       int
		now, at uint64
		want    bool
	}{
		{0, 0, 0, true}, {0, 0, 63, true}, {0, 0, 64, false}, {0, 63, 64, false}, {0, 64, 127, true}, {0, 127, 128, false},
		{1, 0, 64, true}, {1, 0, 4095, true}, {1, 0, 4096, false}, {1, 4095, 4096, false}, {1, 4096, 8191, true}, {1, 100, 4196, false},
		{2, 0, 4096, true}, {2, 0, 1<<18 - 1, true}, {2, 0, 1 << 18, false}, {2, 1 << 18, 1<<19 - 1, true},
		{3, 0, 1 << 18, true}, {3, 0, 1<<24 - 1, true}, {3, 0, 1 << 24, false}, {3, 1<<24 - 1, 1 << 24, false}, {3, 1 << 24, 1<<25 - 1, true},
		{3, 5, 1<<32 + 5, false}, {3, 5, 1<<63 + 5, false}, {3, 0, math.MaxUint64, false}, {0, 0, math.MaxUint64, false},
		{0, math.MaxUint64, math.MaxUint64 - 63, true}, {0, math.MaxUint64, math.MaxUint64 - 64, false},
		{3, math.MaxUint64, math.MaxUint64 - 1<<24 + 1, true}, {3, math.MaxUint64, math.MaxUint64 - 1<<24, false},
		{3, 1<<63 - 1, 1 << 63, false},
	} {
		l := level.New(c.n)
		if l.Fits(c.now, c.at) != c.want || l.Fits(c.at, c.now) != c.want {
			t.Errorf("level %d: Fits(%d, %d) = %v, Fits(%d, %d) = %v, want %v",
				c.n, c.now, c.at, l.Fits(c.now, c.at), c.at, c.now, l.Fits(c.at, c.now), c.want)
		}
	}
}

// P15.1: starts that are written out.
func TestStartKnown(t *testing.T) {
	for _, c := range []struct {
		n    int
		now  uint64
		slot int
		want uint64
	}{
		{0, 0, 0, 0}, {0, 0, 63, 63}, {0, 130, 2, 130}, {0, 130, 1, 129}, {0, 130, 3, 131}, {0, 191, 0, 128},
		{1, 130, 2, 128}, {1, 130, 0, 0}, {1, 130, 63, 4032}, {1, 5000, 3, 4096 + 192}, {1, 4095, 0, 0}, {1, 4096, 0, 4096},
		{2, 5000, 1, 4096}, {2, 5000, 0, 0}, {2, 1 << 18, 5, 1<<18 + 5<<12},
		{3, 5000, 0, 0}, {3, 5000, 63, 63 << 18}, {3, 1<<24 + 7, 1, 1<<24 + 1<<18},
		{0, math.MaxUint64, 63, math.MaxUint64}, {0, math.MaxUint64, 0, math.MaxUint64 - 63},
		{3, math.MaxUint64, 0, math.MaxUint64 - 1<<24 + 1}, {3, math.MaxUint64, 63, math.MaxUint64 - 1<<18 + 1},
		{1, 1<<63 + 1, 1, 1<<63 + 64},
	} {
		if got := level.New(c.n).Start(c.now, c.slot); got != c.want {
			t.Errorf("level %d: Start(%d, %d) = %d, want %d", c.n, c.now, c.slot, got, c.want)
		}
	}
}

// P15.1: the definitions, and 0 for what is no slot; items make no difference.
func TestTicksDefinition(t *testing.T) {
	ticks := someTicks()
	for n := range levels {
		l, full := level.New(n), level.New(n)
		for i, at := range ticks {
			full.Put(level.Item{ID: uint64(i), At: at})
		}
		for _, now := range ticks {
			if got, want := l.Slot(now), slowSlot(n, now); got != want || full.Slot(now) != want {
				t.Errorf("level %d: Slot(%d) = %d and %d, want %d", n, now, got, full.Slot(now), want)
			}
			for _, at := range ticks {
				if got, want := l.Fits(now, at), slowFits(n, now, at); got != want || full.Fits(now, at) != want {
					t.Errorf("level %d: Fits(%d, %d) = %v and %v, want %v", n, now, at, got, full.Fits(now, at), want)
				}
			}
			for slot := range level.Slots {
				if got, want := l.Start(now, slot), slowStart(n, now, slot); got != want || full.Start(now, slot) != want {
					t.Errorf("level %d: Start(%d, %d) = %d and %d, want %d", n, now, slot, got, full.Start(now, slot), want)
				}
			}
			for _, slot := range someNoSlots() {
				if got := l.Start(now, slot); got != 0 {
					t.Errorf("level %d: Start(%d, %d) = %d", n, now, slot, got)
				}
			}
		}
	}
}

// P15.1: Start is the least tick of all that are in the turn and have the slot.
func TestStartLeast(t *testing.T) {
	for n := range levels {
		l, size := level.New(n), power(n+1)
		for _, first := range []uint64{0, size, 1<<63 - size, 1 << 63, -size} {
			var starts []uint64
			for i := range size {
				if l.Slot(first+i) == len(starts) {
					starts = append(starts, first+i)
				}
			}
			for _, now := range []uint64{first, first + 1, first + size/2, first + size - 1} {
				for slot, want := range starts {
					if got := l.Start(now, slot); got != want {
						t.Errorf("level %d: Start(%d, %d) = %d, want %d", n, now, slot, got, want)
					}
				}
			}
			if len(starts) != level.Slots {
				t.Errorf("level %d: the turn from %d on has %d slots", n, first, len(starts))
			}
		}
	}
}

// P15.5: the start of a tick's own slot is not greater, and has the same slot and the same turn.
func TestStartOfOwnSlot(t *testing.T) {
	r := newRandom()
	ticks := someTicks()
	for range 1000 {
		ticks = append(ticks, r.Uint64()>>r.IntN(64))
	}
	for n := range levels {
		l := level.New(n)
		for _, at := range ticks {
			slot := l.Slot(at)
			start := l.Start(at, slot)
			if start > at || at-start >= power(n) || l.Slot(start) != slot || !l.Fits(at, start) {
				t.Errorf("level %d: Start(%d, %d) = %d", n, at, slot, start)
			}
		}
	}
}

// P15.4: orders that are written out, in both directions.
func TestCompareKnown(t *testing.T) {
	const most, half = math.MaxUint64, 1 << 63
	items := []level.Item{
		{ID: 0, At: 0}, {ID: 1, At: 0}, {ID: half, At: 0}, {ID: most, At: 0}, {ID: 0, At: 1}, {ID: 2, At: 1}, {ID: most, At: 1},
		{ID: 1, At: 129}, {ID: 1, At: 130}, {ID: 2, At: 130}, {ID: 0, At: half - 1}, {ID: most, At: half - 1}, {ID: 0, At: half},
		{ID: 3, At: half}, {ID: 0, At: most}, {ID: half - 1, At: most}, {ID: half, At: most}, {ID: most, At: most},
	}
	for i, a := range items {
		for j, b := range items {
			want := 0
			if i < j {
				want = -1
			} else if i > j {
				want = 1
			}
			if got := level.Compare(a, b); got != want {
				t.Errorf("Compare(%+v, %+v) = %d, want %d", a, b, got, want)
			}
		}
	}
}

// All functions of a nil Level return zero values, and First returns -1.
func TestNil(t *testing.T) {
	var l *level.Level
	for _, n := range append(someNoSlots(), 0, 1, 2, 63) {
		at := uint64(n)
		x := level.Item{ID: 1, At: at}
		if l.Slot(at) != 0 || l.Fits(at, at) || l.Fits(0, at) || l.Start(at, n) != 0 || l.Start(at, 1) != 0 {
			t.Errorf("ticks, for %d", n)
		}
		if l.Put(x) || l.Remove(x) || len(l.Take(n)) != 0 || l.Count() != 0 {
			t.Errorf("items, for %d", n)
		}
		if got := l.First(n); got != -1 {
			t.Errorf("First(%d) = %d", n, got)
		}
	}
}

// P1: no arguments whatsoever cause a panic.
func TestAnyNumbers(t *testing.T) {
	r := newRandom()
	for n := range levels {
		l := level.New(n)
		for range 20000 {
			i, at := int(r.Uint64()>>r.IntN(64)), r.Uint64()>>r.IntN(64)
			x := level.Item{ID: r.Uint64(), At: at}
			if slot := l.Slot(at); slot < 0 || slot >= level.Slots {
				t.Fatalf("level %d: Slot(%d) = %d", n, at, slot)
			}
			if slot := l.First(i); slot < -1 || slot >= level.Slots || slot >= 0 && slot < i {
				t.Fatalf("level %d: First(%d) = %d", n, i, slot)
			}
			if l.Start(at, i) != 0 && (i < 0 || i >= level.Slots) {
				t.Fatalf("level %d: Start(%d, %d) = %d", n, at, i, l.Start(at, i))
			}
			if !l.Put(x) || !l.Remove(x) || !l.Put(x) {
				t.Fatalf("level %d: %+v is not there once", n, x)
			}
			l.Take(i)
		}
	}
}
