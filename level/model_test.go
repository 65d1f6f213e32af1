package level_test

import (
	"math"
	"math/rand/v2"
	"slices"
	"testing"

	"clockwork/level"
)

// model is what the chapter says of the items of a level: each is there once.
type model struct {
	n     int
	items []level.Item
}

func (m *model) put(x level.Item) bool {
	if slices.Contains(m.items, x) {
		return false
	}
	m.items = append(m.items, x)
	return true
}

func (m *model) remove(x level.Item) bool {
	before := len(m.items)
	m.items = slices.DeleteFunc(m.items, func(y level.Item) bool { return x == y })
	return len(m.items) < before
}

func (m *model) take(slot int) []level.Item {
	var taken, left []level.Item
	for _, x := range m.items {
		if slowSlot(m.n, x.At) == slot {
			taken = append(taken, x)
		} else {
			left = append(left, x)
		}
	}
	m.items = left
	slices.SortFunc(taken, func(a, b level.Item) int {
		switch {
		case a == b:
			return 0
		case a.At < b.At || a.At == b.At && a.ID < b.ID:
			return -1
		}
		return 1
	})
	return taken
}

func (m *model) first(from int) int {
	least := -1
	for _, x := range m.items {
		if slot := slowSlot(m.n, x.At); slot >= from && (least < 0 || slot < least) {
			least = slot
		}
	}
	return least
}

// someItem returns one of few items, so that the same ones are met again.
func someItem(r *rand.Rand, n int) level.Item {
	at := r.Uint64N(3)<<(6*n+6) + r.Uint64N(4)<<(6*n) + r.Uint64N(2)
	if r.IntN(4) == 0 {
		at = -at - 1
	}
	return level.Item{ID: []uint64{0, 1, 2, math.MaxUint64}[r.IntN(4)], At: at}
}

// P15.2 and P15.3: random calls, compared with a slow model.
func TestModel(t *testing.T) {
	r := newRandom()
	for round := range 400 {
		n := round % levels
		l, m := level.New(n), &model{n: n}
		for range 300 {
			x := someItem(r, n)
			switch r.IntN(10) {
			case 0:
				slot := r.IntN(68) - 2
				if r.IntN(2) == 0 {
					slot = slowSlot(n, x.At)
				}
				if got, want := l.Take(slot), m.take(slot); !slices.Equal(got, want) {
					t.Fatalf("level %d: Take(%d) = %v, want %v", n, slot, got, want)
				}
			case 1, 2, 3:
				if got, want := l.Remove(x), m.remove(x); got != want {
					t.Fatalf("level %d: Remove(%+v) = %v, want %v", n, x, got, want)
				}
			default:
				if got, want := l.Put(x), m.put(x); got != want {
					t.Fatalf("level %d: Put(%+v) = %v, want %v", n, x, got, want)
				}
			}
			from := r.IntN(70) - 3
			if got, want := l.First(from), m.first(from); got != want {
				t.Fatalf("level %d: First(%d) = %d, want %d", n, from, got, want)
			}
			if got, want := l.Count(), len(m.items); got != want {
				t.Fatalf("level %d: %d items, want %d", n, got, want)
			}
		}
	}
}
