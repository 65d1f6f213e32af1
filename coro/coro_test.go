package coro_test

import (
	"math"
	"runtime"
	"slices"
	"sync"
	"sync/atomic"
	"testing"

	"clockwork/coro"
)

// states checks the states of all coroutines, and how many are in each state.
func states(t *testing.T, s *coro.Scheduler, want ...int) {
	t.Helper()
	for i, state := range want {
		if got := s.State(i + 1); got != state {
			t.Errorf("State(%d) = %d, want %d", i+1, got, state)
		}
	}
	for _, id := range []int{math.MinInt, -1, 0, len(want) + 1, math.MaxInt} {
		if got := s.State(id); got != 0 {
			t.Errorf("State(%d) = %d, want 0", id, got)
		}
	}
	for state := range coro.Ended {
		n := 0
		for _, x := range want {
			if x == state+1 {
				n++
			}
		}
		if got := s.Count(state + 1); got != n {
			t.Errorf("Count(%d) = %d, want %d", state+1, got, n)
		}
	}
	for _, state := range []int{math.MinInt, -1, 0, coro.Ended + 1, math.MaxInt} {
		if got := s.Count(state); got != 0 {
			t.Errorf("Count(%d) = %d, want 0", state, got)
		}
	}
}

// turns checks what Run returns.
func turns(t *testing.T, s *coro.Scheduler, want int) {
	t.Helper()
	if got := s.Run(); got != want {
		t.Errorf("Run() = %d, want %d", got, want)
	}
}

// traced checks what coroutines have noted.
func traced(t *testing.T, got []int, want ...int) {
	t.Helper()
	if !slices.Equal(got, want) {
		t.Errorf("the trace is %v, want %v", got, want)
	}
}

// P18.1: the states have the numbers of the chapter.
func TestNumbersOfStates(t *testing.T) {
	got := []int{coro.Ready, coro.Blocked, coro.Done, coro.Panicked, coro.Ended}
	if !slices.Equal(got, []int{1, 2, 3, 4, 5}) {
		t.Errorf("the states are %v", got)
	}
}

// P18.1: a new scheduler has no coroutines, and is not closed.
func TestNew(t *testing.T) {
	s := coro.New()
	defer s.Close()
	states(t, s)
	turns(t, s, 0)
	if s.Closed() || s.Wake(1) || s.Text(1) != "" {
		t.Error("a new scheduler is closed, or has a coroutine")
	}
}

// P18.1: coroutines are numbered in the order in which they were made, and are ready before they run.
func TestSpawn(t *testing.T) {
	s := coro.New()
	defer s.Close()
	var ids []int
	for i := range 5 {
		if id := s.Spawn(func(c *coro.Co) { ids = append(ids, c.ID()) }); id != i+1 {
			t.Errorf("Spawn() = %d, want %d", id, i+1)
		}
	}
	traced(t, ids)
	states(t, s, 1, 1, 1, 1, 1)
	turns(t, s, 5)
	traced(t, ids, 1, 2, 3, 4, 5)
	states(t, s, 3, 3, 3, 3, 3)
}

// P18.1: a coroutine makes others, by its own Spawn or by that of the scheduler; they are numbered on.
func TestSpawnInside(t *testing.T) {
	s := coro.New()
	defer s.Close()
	var trace []int
	note := func(c *coro.Co) { trace = append(trace, c.ID()) }
	s.Spawn(func(c *coro.Co) {
		note(c)
		if a, b := c.Spawn(note), s.Spawn(note); a != 3 || b != 4 {
			t.Errorf("Spawn() = %d and %d, want 3 and 4", a, b)
		}
		states(t, s, 1, 1, 1, 1)
		c.Yield()
		note(c)
	})
	s.Spawn(note)
	turns(t, s, 5)
	traced(t, trace, 1, 2, 3, 4, 1)
	if id := s.Spawn(note); id != 5 {
		t.Errorf("Spawn() = %d, want 5", id)
	}
	turns(t, s, 1)
}

// P18.1: ID is the same in each turn.
func TestID(t *testing.T) {
	s := coro.New()
	defer s.Close()
	var trace []int
	for range 3 {
		s.Spawn(func(c *coro.Co) {
			for range 3 {
				trace = append(trace, c.ID())
				c.Yield()
			}
			trace = append(trace, c.ID())
		})
	}
	turns(t, s, 12)
	traced(t, trace, 1, 2, 3, 1, 2, 3, 1, 2, 3, 1, 2, 3)
}

// P18.2: the example of the chapter.
func TestExample(t *testing.T) {
	s := coro.New()
	defer s.Close()
	var trace []int
	for range 2 {
		s.Spawn(func(c *coro.Co) {
			trace = append(trace, c.ID())
			c.Yield()
			trace = append(trace, c.ID())
		})
	}
	turns(t, s, 4)
	traced(t, trace, 1, 2, 1, 2)
}

// P18.2: a coroutine that yields is ready, and its next turn comes behind those of all that were ready.
func TestYield(t *testing.T) {
	s := coro.New()
	defer s.Close()
	var trace []int
	s.Spawn(func(c *coro.Co) {
		trace = append(trace, 10)
		s.Spawn(func(*coro.Co) {
			trace = append(trace, 30)
			states(t, s, coro.Ready, coro.Done, coro.Ready)
		})
		c.Yield()
		trace = append(trace, 11)
		c.Yield()
		trace = append(trace, 12)
	})
	s.Spawn(func(*coro.Co) {
		trace = append(trace, 20)
		states(t, s, coro.Ready, coro.Ready, coro.Ready)
	})
	turns(t, s, 5)
	traced(t, trace, 10, 20, 30, 11, 12)
	states(t, s, coro.Done, coro.Done, coro.Done)
}

// P18.2: a coroutine that blocks gets no turn before it is woken, in the same Run or in a later one.
func TestBlock(t *testing.T) {
	s := coro.New()
	defer s.Close()
	var trace []int
	id := s.Spawn(func(c *coro.Co) {
		for i := range 3 {
			trace = append(trace, i)
			c.Block()
		}
	})
	turns(t, s, 1)
	turns(t, s, 0)
	traced(t, trace, 0)
	states(t, s, coro.Blocked)
	if !s.Wake(id) {
		t.Error("Wake() = false for a blocked coroutine")
	}
	traced(t, trace, 0)
	states(t, s, coro.Ready)
	s.Spawn(func(c *coro.Co) {
		states(t, s, coro.Blocked, coro.Ready)
		if !s.Wake(id) {
			t.Error("Wake() = false for a blocked coroutine")
		}
		states(t, s, coro.Ready, coro.Ready)
	})
	turns(t, s, 3)
	traced(t, trace, 0, 1, 2)
	states(t, s, coro.Blocked, coro.Done)
	s.Wake(id)
	turns(t, s, 1)
	states(t, s, coro.Done, coro.Done)
}

// P18.2: Wake does nothing for coroutines that are not blocked, and for numbers of none.
func TestWakeRefused(t *testing.T) {
	s := coro.New()
	defer s.Close()
	runs := 0
	s.Spawn(func(c *coro.Co) {
		runs++
		if s.Wake(c.ID()) {
			t.Error("Wake() = true for the coroutine that runs")
		}
	})
	s.Spawn(func(*coro.Co) { panic("x") })
	s.Spawn(func(c *coro.Co) {
		runs++
		c.Block()
		runs++
	})
	refused := func(ids ...int) {
		t.Helper()
		for _, id := range ids {
			if s.Wake(id) {
				t.Errorf("Wake(%d) = true", id)
			}
		}
	}
	refused(1, 2, 3, 4, 0, -1, math.MinInt, math.MaxInt)
	turns(t, s, 3)
	refused(1, 2, 4, 0, -1, math.MinInt, math.MaxInt)
	turns(t, s, 0)
	if !s.Wake(3) || s.Wake(3) {
		t.Error("a coroutine is woken twice, or not at all")
	}
	turns(t, s, 1)
	if states(t, s, coro.Done, coro.Panicked, coro.Done); runs != 3 {
		t.Errorf("%d parts have run, want 3", runs)
	}
}

// P18.2: coroutines run in the order in which they were woken, and new ones come behind them.
func TestWakeOrder(t *testing.T) {
	s := coro.New()
	defer s.Close()
	var trace []int
	note := func(c *coro.Co) { trace = append(trace, c.ID()) }
	for range 4 {
		s.Spawn(func(c *coro.Co) {
			c.Block()
			note(c)
		})
	}
	turns(t, s, 4)
	for _, id := range []int{3, 1, 4} {
		s.Wake(id)
	}
	s.Spawn(note)
	s.Wake(2)
	turns(t, s, 5)
	traced(t, trace, 3, 1, 4, 5, 2)
}

// P18.2: after a Run that has ended, another one goes on with what has become ready.
func TestRunAgain(t *testing.T) {
	s := coro.New()
	defer s.Close()
	sum := 0
	for i := range 10 {
		s.Spawn(func(c *coro.Co) {
			sum += i
			c.Yield()
			sum += i
		})
		turns(t, s, 2)
		if want := i * (i + 1); sum != want {
			t.Errorf("after %d, the sum is %d, want %d", i, sum, want)
		}
	}
}

// P18.5: all that are ready get a turn before any of them gets a second one.
func TestRoundRobin(t *testing.T) {
	s := coro.New()
	defer s.Close()
	var trace, want []int
	for n := range 7 {
		s.Spawn(func(c *coro.Co) {
			for range n {
				trace = append(trace, c.ID())
				c.Yield()
			}
		})
	}
	for round := range 7 {
		for id := round + 2; id <= 7; id++ {
			want = append(want, id)
		}
	}
	turns(t, s, 7+len(want))
	traced(t, trace, want...)
}

// P18.5: the order stays the same whatever Go does with goroutines, and no two functions run at a time.
func TestOneAtATime(t *testing.T) {
	var inside atomic.Int32
	run := func() []int {
		s := coro.New()
		defer s.Close()
		var trace []int
		for range 20 {
			s.Spawn(func(c *coro.Co) {
				for i := range 20 {
					if inside.Add(1) != 1 {
						t.Error("two functions run at the same time")
					}
					runtime.Gosched()
					trace = append(trace, c.ID())
					inside.Add(-1)
					if s.Wake((c.ID()*i + 7) % 20); i%3 == 2 {
						c.Block()
					} else {
						c.Yield()
					}
				}
			})
		}
		s.Run()
		return trace
	}
	first := run()
	for range 50 {
		if got := run(); !slices.Equal(got, first) {
			t.Fatalf("the trace is %v, and was %v", got, first)
		}
	}
}

// P18.2: many coroutines with many turns.
func TestMany(t *testing.T) {
	s := coro.New()
	n := 0
	for range 10000 {
		s.Spawn(func(c *coro.Co) {
			for range 10 {
				n++
				c.Yield()
			}
			c.Block()
		})
	}
	turns(t, s, 110000)
	if n != 100000 || s.Count(coro.Blocked) != 10000 {
		t.Errorf("n = %d, and %d are blocked", n, s.Count(coro.Blocked))
	}
	if ended := s.Close(); ended != 10000 {
		t.Errorf("Close() = %d, want 10000", ended)
	}
}

// On a nil Scheduler, methods do nothing, and it is closed.
func TestNil(t *testing.T) {
	var s *coro.Scheduler
	if !s.Closed() || s.Spawn(func(*coro.Co) { t.Error("runs") }) != 0 || s.Wake(1) || s.Wake(0) || s.Text(1) != "" {
		t.Error("a nil scheduler does something")
	}
	turns(t, s, 0)
	states(t, s)
	if s.Close() != 0 || s.Close() != 0 {
		t.Error("a nil scheduler is closed once more")
	}
	var c *coro.Co
	c.Yield()
	c.Block()
	if c.ID() != 0 || c.Spawn(func(*coro.Co) {}) != 0 {
		t.Error("a nil Co does something")
	}
}

// P2: schedulers are independent of each other, also if a coroutine of one runs those of another.
func TestIndependent(t *testing.T) {
	var trace []int
	outer, inner := coro.New(), coro.New()
	for i := range 2 {
		inner.Spawn(func(c *coro.Co) {
			trace = append(trace, 100+i)
			c.Yield()
			trace = append(trace, 110+i)
			c.Block()
		})
		outer.Spawn(func(c *coro.Co) {
			trace = append(trace, i)
			c.Yield()
			turns(t, inner, 4-4*i)
			inner.Spawn(func(*coro.Co) { panic("x") })
			turns(t, inner, 1)
			trace = append(trace, 10+i)
			c.Block()
		})
	}
	turns(t, outer, 4)
	traced(t, trace, 0, 1, 100, 101, 110, 111, 10, 11)
	states(t, outer, coro.Blocked, coro.Blocked)
	states(t, inner, coro.Blocked, coro.Blocked, coro.Panicked, coro.Panicked)
	if outer.Close() != 2 || inner.Closed() || inner.Close() != 2 {
		t.Error("closing one scheduler has an effect on another one")
	}
}

// Rule 6: the functions of the package may be called concurrently, each scheduler by one goroutine.
func TestConcurrent(t *testing.T) {
	var g sync.WaitGroup
	for range 8 {
		g.Go(func() {
			s := coro.New()
			sum := 0
			for i := range 50 {
				s.Spawn(func(c *coro.Co) {
					for range 20 {
						sum += i
						c.Yield()
					}
					c.Block()
				})
			}
			if n := s.Run(); n != 1050 || sum != 24500 || s.Close() != 50 {
				t.Errorf("Run() = %d, and the sum is %d", n, sum)
			}
		})
	}
	g.Wait()
}
