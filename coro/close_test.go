package coro_test

import (
	"runtime"
	"sync/atomic"
	"testing"
	"time"

	"clockwork/coro"
)

// closed checks what Close returns, and that a closed scheduler does nothing any more.
func closed(t *testing.T, s *coro.Scheduler, want int) {
	t.Helper()
	if s.Closed() {
		t.Error("Closed() = true before Close")
	}
	if got := s.Close(); got != want {
		t.Errorf("Close() = %d, want %d", got, want)
	}
	for range 2 {
		if !s.Closed() || s.Close() != 0 || s.Spawn(func(*coro.Co) { t.Error("runs") }) != 0 {
			t.Error("a closed scheduler is closed again, or makes a coroutine")
		}
		for id := range 10 {
			if s.Wake(id) {
				t.Errorf("Wake(%d) = true after Close", id)
			}
		}
		turns(t, s, 0)
	}
	if s.Count(coro.Ready) != 0 || s.Count(coro.Blocked) != 0 {
		t.Error("some are ready or blocked after Close")
	}
}

// P18.4: a scheduler without coroutines, or with coroutines that are done, ends none.
func TestCloseNone(t *testing.T) {
	closed(t, coro.New(), 0)
	s := coro.New()
	s.Spawn(func(*coro.Co) {})
	s.Spawn(func(*coro.Co) { panic("text") })
	turns(t, s, 2)
	closed(t, s, 0)
	states(t, s, coro.Done, coro.Panicked)
	panicked(t, s, 2, "text")
}

// P18.4: those that never ran end without running.
func TestCloseNeverRan(t *testing.T) {
	s := coro.New()
	for range 3 {
		s.Spawn(func(*coro.Co) { t.Error("runs") })
	}
	closed(t, s, 3)
	states(t, s, coro.Ended, coro.Ended, coro.Ended)
}

// P18.4: those that are ready or blocked end in ascending order, and their deferred functions run.
func TestCloseOrder(t *testing.T) {
	s := coro.New()
	var trace []int
	for range 5 {
		s.Spawn(func(c *coro.Co) {
			defer func() { trace = append(trace, c.ID()) }()
			defer func() { trace = append(trace, 10*c.ID()) }()
			if c.Block(); c.ID() == 3 {
				return
			}
			c.Block()
			trace = append(trace, 1000)
		})
	}
	turns(t, s, 5)
	for _, id := range []int{5, 3, 4} {
		s.Wake(id)
	}
	turns(t, s, 3)
	s.Spawn(func(*coro.Co) { t.Error("runs") })
	s.Wake(4)
	s.Wake(1)
	states(t, s, coro.Ready, coro.Blocked, coro.Done, coro.Ready, coro.Blocked, coro.Ready)
	traced(t, trace, 30, 3)
	closed(t, s, 5)
	states(t, s, coro.Ended, coro.Ended, coro.Done, coro.Ended, coro.Ended, coro.Ended)
	traced(t, trace, 30, 3, 10, 1, 20, 2, 40, 4, 50, 5)
}

// P18.4: Yield and Block panic when the scheduler is closed, also in deferred functions; these have no other effect.
func TestCloseInside(t *testing.T) {
	s := coro.New()
	passed := 0
	pass := func() {
		if v := recover(); v != nil {
			passed++
			panic(v)
		}
	}
	for i := range 3 {
		s.Spawn(func(c *coro.Co) {
			defer pass()
			defer c.Block()
			defer pass()
			defer c.Yield()
			defer pass()
			defer func() {
				if !s.Closed() || c.ID() != i+1 || c.Spawn(func(*coro.Co) {}) != 0 || s.Spawn(func(*coro.Co) {}) != 0 {
					t.Error("the scheduler is not closed while coroutines end")
				}
				if s.Wake(1) || s.Wake(2) || s.Wake(3) {
					t.Error("a coroutine is woken while coroutines end")
				}
				states(t, s, coro.Ended, coro.Ended, coro.Ended)
			}()
			c.Block()
		})
	}
	turns(t, s, 3)
	s.Wake(2)
	closed(t, s, 3)
	states(t, s, coro.Ended, coro.Ended, coro.Ended)
	if passed != 9 {
		t.Errorf("%d panics have passed, want 9", passed)
	}
}

// P18.4: a coroutine whose deferred function panics ends like others, without a text.
func TestCloseDeferredPanics(t *testing.T) {
	s := coro.New()
	e := &trouble{}
	for _, v := range []any{"text", e, 7, nil} {
		s.Spawn(func(c *coro.Co) {
			defer c.Panic(v)
			c.Yield()
			c.Block()
		})
	}
	turns(t, s, 8)
	closed(t, s, 4)
	states(t, s, coro.Ended, coro.Ended, coro.Ended, coro.Ended)
	for id := range 5 {
		if s.Text(id) != "" {
			t.Errorf("Text(%d) = %q", id, s.Text(id))
		}
	}
}

// P18.4: a coroutine that waits in a deferred function, as it has panicked, ends too.
func TestCloseWhilePanicking(t *testing.T) {
	s := coro.New()
	trace := 0
	s.Spawn(func(c *coro.Co) {
		defer func() { trace++ }()
		defer func() {
			c.Block()
			trace = 100
		}()
		panic("text")
	})
	turns(t, s, 1)
	states(t, s, coro.Blocked)
	closed(t, s, 1)
	states(t, s, coro.Ended)
	if trace != 1 || s.Text(1) != "" {
		t.Errorf("the trace is %d, and the text %q", trace, s.Text(1))
	}
}

// P18.4, P2: what ends the coroutines of one scheduler is a panic like any other in another scheduler.
func TestCloseOther(t *testing.T) {
	var end any
	one, other := coro.New(), coro.New()
	one.Spawn(func(c *coro.Co) {
		defer func() {
			end = recover()
			panic(end)
		}()
		c.Block()
	})
	turns(t, one, 1)
	closed(t, one, 1)
	other.Spawn(func(c *coro.Co) { panic(end) })
	other.Spawn(func(c *coro.Co) { c.Block() })
	turns(t, other, 2)
	panicked(t, other, 1, "panic")
	closed(t, other, 1)
	panicked(t, other, 1, "panic")
}

// eventually waits until something holds that Go does some time later.
func eventually(holds func() bool) bool {
	for range 1000 {
		if holds() {
			return true
		}
		time.Sleep(time.Millisecond)
	}
	return false
}

// P18.4: after Close, no goroutine is left; those of coroutines that are done have ended before.
func TestNoGoroutineLeft(t *testing.T) {
	before := runtime.NumGoroutine()
	left := func(want int) {
		t.Helper()
		if !eventually(func() bool { return runtime.NumGoroutine() <= before+want }) {
			t.Errorf("%d goroutines, want %d", runtime.NumGoroutine(), before+want)
		}
	}
	s := coro.New()
	for i := range 100 {
		s.Spawn(func(c *coro.Co) {
			if c.Yield(); i >= 60 {
				c.Block()
			} else if i >= 30 {
				c.Panic("text")
			}
		})
	}
	s.Run()
	left(40)
	for range 10 {
		s.Spawn(func(*coro.Co) {})
	}
	closed(t, s, 50)
	left(0)
}

// P18.3: nothing that a function has used is kept once it has ended, although its state is.
func TestFunctionsNotKept(t *testing.T) {
	s := coro.New()
	defer s.Close()
	var freed atomic.Int32
	for i := range 3 {
		used := new([100]int)
		runtime.AddCleanup(used, func(int) { freed.Add(1) }, 0)
		s.Spawn(func(c *coro.Co) {
			if c.Yield(); i == 2 {
				panic(used)
			}
			used[0]++
		})
	}
	turns(t, s, 6)
	if !eventually(func() bool { runtime.GC(); return freed.Load() == 3 }) {
		t.Errorf("what functions have used is kept: only %d of 3 are freed", freed.Load())
	}
	states(t, s, coro.Done, coro.Done, coro.Panicked)
}
