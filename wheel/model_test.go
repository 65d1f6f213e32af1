package wheel_test

import (
	"maps"
	"math"
	"math/rand/v2"
	"slices"
	"testing"

	"clockwork/api"
	"clockwork/level"
	"clockwork/wheel"
)

func newRandom() *rand.Rand { return rand.New(rand.NewPCG(16, 47)) }

// someTicks are the first and the last ones of slots and turns of all levels, and their neighbors, in order.
func someTicks() []uint64 {
	var ticks []uint64
	for shift := 0; shift < 64; shift += 6 {
		for _, factor := range []uint64{0, 1, 2, 63} {
			at := factor << shift
			ticks = append(ticks, at-1, at, at+1, 5000+at)
		}
	}
	ticks = append(ticks, 1<<62, api.MaxTick-64, api.MaxTick-63, api.MaxTick-1, api.MaxTick)
	ticks = slices.DeleteFunc(ticks, func(at uint64) bool { return at > api.MaxTick })
	slices.Sort(ticks)
	return slices.Compact(ticks)
}

// model is what the chapter says of a wheel.
type model struct {
	now    uint64
	timers map[uint64]uint64
}

func (m *model) schedule(id, at uint64) api.Code {
	if at > math.MaxInt64 {
		return api.ErrRange
	}
	if _, found := m.timers[id]; found {
		return api.ErrTwice
	}
	m.timers[id] = at
	return api.OK
}

func (m *model) cancel(id uint64) api.Code {
	if _, found := m.timers[id]; !found {
		return api.ErrName
	}
	delete(m.timers, id)
	return api.OK
}

func (m *model) advance(now uint64) ([]level.Item, api.Code) {
	if now > math.MaxInt64 {
		return nil, api.ErrRange
	}
	if now < m.now {
		return nil, api.ErrOrder
	}
	m.now = now
	var due []level.Item
	for id, at := range maps.Clone(m.timers) {
		if at <= now {
			due = append(due, item(id, at))
			delete(m.timers, id)
		}
	}
	slices.SortFunc(due, func(a, b level.Item) int {
		if a.At < b.At || a.At == b.At && a.ID < b.ID {
			return -1
		}
		return 1
	})
	return due, api.OK
}

func (m *model) next() (uint64, bool) {
	if len(m.timers) == 0 {
		return 0, false
	}
	return slices.Min(slices.Collect(maps.Values(m.timers))), true
}

// agrees fails the test unless a wheel and its model answer the same.
func agrees(t *testing.T, w *wheel.Wheel, m *model) {
	t.Helper()
	at, ok := w.Next()
	if wantAt, wantOK := m.next(); at != wantAt || ok != wantOK {
		t.Fatalf("Next() = %d, %v, want %d, %v", at, ok, wantAt, wantOK)
	}
	if w.Now() != m.now || w.Count() != len(m.timers) {
		t.Fatalf("%d timers at %d, want %d at %d", w.Count(), w.Now(), len(m.timers), m.now)
	}
	for id := range uint64(12) {
		if _, found := m.timers[id]; w.Has(id) != found {
			t.Fatalf("Has(%d) = %v", id, w.Has(id))
		}
	}
}

// someTick returns a tick near the current one, or far away from it, on either side.
func someTick(r *rand.Rand, now uint64) uint64 {
	by := r.Uint64N(130) << (r.IntN(11) * 6)
	switch r.IntN(8) {
	case 0:
		return r.Uint64() >> r.IntN(64)
	case 1:
		return now - by>>r.IntN(12)
	case 2:
		return now + r.Uint64N(3)
	case 3:
		return (now + by) &^ 63
	}
	return now + by>>r.IntN(60)
}

// P16.1 to P16.4: random calls, compared with a slow model.
func TestModel(t *testing.T) {
	r := newRandom()
	for round := range 3000 {
		now := r.Uint64() >> (round % 64)
		w, m := wheel.New(now), &model{now: min(now, math.MaxInt64), timers: map[uint64]uint64{}}
		for range 150 {
			id, at := r.Uint64N(12), someTick(r, m.now)
			switch r.IntN(6) {
			case 0:
				if r.IntN(4) > 0 {
					at = m.now + at%(1<<r.IntN(20))
				}
				got, code := w.Advance(at)
				if want, wantCode := m.advance(at); !slices.Equal(got, want) || code != wantCode {
					t.Fatalf("Advance(%d) = %v, %v, want %v, %v", at, got, code, want, wantCode)
				}
			case 1:
				if got, want := w.Cancel(id), m.cancel(id); got != want {
					t.Fatalf("Cancel(%d) = %v, want %v", id, got, want)
				}
			default:
				if got, want := w.Schedule(id, at), m.schedule(id, at); got != want {
					t.Fatalf("Schedule(%d, %d) = %v, want %v", id, at, got, want)
				}
			}
			if r.IntN(3) == 0 {
				agrees(t, w, m)
			}
		}
		agrees(t, w, m)
	}
}
