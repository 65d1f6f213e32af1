package wheel_test

import (
	"slices"
	"testing"

	"clockwork/api"
	"clockwork/level"
	"clockwork/wheel"
)

// someTimers returns timers with random deadlines, up to a tick of a random size.
func someTimers(count int) []level.Item {
	r := newRandom()
	var items []level.Item
	for id := range uint64(count) {
		items = append(items, item(id, r.Uint64()>>(1+r.IntN(63))))
	}
	return items
}

// P16.5: advancing in steps of any size returns the same timers as advancing in one.
func TestSteps(t *testing.T) {
	r := newRandom()
	items := someTimers(500)
	whole := wheel.New(0)
	schedule(t, whole, items...)
	want, _ := whole.Advance(api.MaxTick)
	if !slices.Equal(want, sorted(slices.Clone(items)...)) {
		t.Fatalf("Advance returns %d of %d timers, or not in order", len(want), len(items))
	}
	for range 100 {
		w := wheel.New(0)
		schedule(t, w, items...)
		var got []level.Item
		for w.Now() < api.MaxTick {
			size := uint64(1) << r.IntN(61)
			now := min(w.Now()+size+r.Uint64N(size), api.MaxTick)
			fired, code := w.Advance(now)
			if code != api.OK {
				t.Fatalf("Advance(%d) = %v", now, code)
			}
			got = append(got, fired...)
		}
		if !slices.Equal(got, want) {
			t.Fatalf("%d timers fired in steps, want %d", len(got), len(want))
		}
		empty(t, w)
	}
}

// P16.5: advancing tick by tick through turns of the lower levels, with all timers of each tick.
func TestTickByTick(t *testing.T) {
	for _, now := range []uint64{0, 1<<18 - 5000, 1<<24 - 5000, 1<<48 - 5000, api.MaxTick - 10000} {
		w := wheel.New(now)
		for i := range uint64(10001) {
			schedule(t, w, item(2*i, now+i))
			if i%7 == 0 {
				schedule(t, w, item(2*i+1, now+i))
			}
		}
		for i := range uint64(10001) {
			next(t, w, now+i)
			if i%7 == 0 {
				fires(t, w, now+i, item(2*i, now+i), item(2*i+1, now+i))
			} else {
				fires(t, w, now+i, item(2*i, now+i))
			}
		}
		empty(t, w)
	}
}

// P16.5: advancing from deadline to deadline.
func TestFromNextToNext(t *testing.T) {
	items := someTimers(20000)
	w := wheel.New(0)
	schedule(t, w, items...)
	var got []level.Item
	for {
		at, ok := w.Next()
		if !ok {
			break
		}
		if at > 0 && at > w.Now() {
			fires(t, w, at-1)
		}
		fired, code := w.Advance(at)
		if code != api.OK || len(fired) == 0 {
			t.Fatalf("Advance(%d) = %v, %v", at, fired, code)
		}
		for _, x := range fired {
			if x.At != at || w.Has(x.ID) {
				t.Fatalf("%v has fired at %d, or is still there", x, at)
			}
		}
		got = append(got, fired...)
	}
	if !slices.Equal(got, sorted(items...)) {
		t.Errorf("%d timers fired, want %d", len(got), len(items))
	}
}

// P16.5: each timer fires once or is cancelled, and not both.
func TestOnce(t *testing.T) {
	const most = 20000
	r := newRandom()
	ends := make([]int, most)
	w := wheel.New(0)
	for id := range uint64(most) {
		schedule(t, w, item(id, w.Now()+r.Uint64N(130)<<(r.IntN(8)*6)))
		if victim := r.Uint64N(id + 1); r.IntN(3) == 0 && w.Cancel(victim) == api.OK {
			ends[victim]++
		}
		if r.IntN(4) == 0 {
			fired, _ := w.Advance(w.Now() + r.Uint64N(64)<<(r.IntN(6)*6))
			for _, x := range fired {
				ends[x.ID]++
			}
		}
	}
	fired, _ := w.Advance(api.MaxTick)
	for _, x := range fired {
		ends[x.ID]++
	}
	for id, n := range ends {
		if n != 1 {
			t.Errorf("the timer %d ended %d times", id, n)
		}
	}
	empty(t, w)
}

// P16.5: a wheel goes through all ticks that there are, thousands of times, and does so with timers at the end.
func TestAllTicks(t *testing.T) {
	for i := uint64(1); i <= 3000; i++ {
		w := wheel.New(0)
		fires(t, w, api.MaxTick-i-1)
		schedule(t, w, item(i, api.MaxTick))
		fires(t, w, api.MaxTick-1)
		fires(t, w, api.MaxTick, item(i, api.MaxTick))

		w = wheel.New(i)
		schedule(t, w, item(1, api.MaxTick), item(2, api.MaxTick-i))
		next(t, w, api.MaxTick-i)
		fires(t, w, api.MaxTick-i-1)
		fires(t, w, api.MaxTick, item(2, api.MaxTick-i), item(1, api.MaxTick))
	}
}
