package coro_test

import (
	"math/rand/v2"
	"slices"
	"testing"

	"clockwork/coro"
)

// Kinds of actions: coroutines of random calls do these, one after the other.
const (
	note = iota
	yield
	block
	wake
	spawn
	spawnBySelf
	look
	raise
	kinds
)

// action is what a coroutine does, with a number.
type action struct{ kind, n int }

// body does actions, and at the end, also when it panics or is closed, what atEnd says.
type body struct {
	actions []action
	atEnd   []action
}

// entry is what a coroutine notes of one action.
type entry struct{ id, kind, result int }

const mostSpawning = 12 // only the first coroutines make others, so that there is an end of it

// world is a scheduler with the bodies of its coroutines, and with what they have noted.
type world struct {
	s      *coro.Scheduler
	bodies []body
	trace  []entry
}

func truth(b bool) int {
	if b {
		return 1
	}
	return 0
}

// do does one action of a coroutine.
func (w *world) do(c *coro.Co, a action) {
	result := 0
	switch a.kind {
	case yield:
		c.Yield()
	case block:
		c.Block()
	case wake:
		result = truth(w.s.Wake(a.n))
	case spawn, spawnBySelf:
		if c.ID() > mostSpawning {
			break
		}
		if f := w.function(a.n); a.kind == spawn {
			result = w.s.Spawn(f)
		} else {
			result = c.Spawn(f)
		}
	case look:
		result = 10*w.s.State(a.n) + truth(w.s.Closed())
	case raise:
		c.Panic(string(rune('a' + a.n)))
	}
	w.trace = append(w.trace, entry{c.ID(), a.kind, result})
}

// function is the function of a body.
func (w *world) function(n int) func(*coro.Co) {
	b := w.bodies[n%len(w.bodies)]
	return func(c *coro.Co) {
		defer func() {
			for _, a := range b.atEnd {
				w.do(c, a)
			}
		}()
		for _, a := range b.actions {
			w.do(c, a)
		}
	}
}

// member is a coroutine of the model; its place is how many actions it has done.
type member struct {
	b      body
	state  int
	place  int
	atEnd  bool
	waits  bool
	panics bool
	text   string
}

// model is what the chapter says of a scheduler.
type model struct {
	bodies []body
	all    []*member
	ready  []int
	closed bool
	trace  []entry
}

func (m *model) state(id int) int {
	if id < 1 || id > len(m.all) {
		return 0
	}
	return m.all[id-1].state
}

func (m *model) spawn(n int) int {
	if m.closed {
		return 0
	}
	m.all = append(m.all, &member{b: m.bodies[n%len(m.bodies)], state: coro.Ready})
	m.ready = append(m.ready, len(m.all))
	return len(m.all)
}

func (m *model) wake(id int) bool {
	if m.state(id) != coro.Blocked {
		return false
	}
	m.all[id-1].state = coro.Ready
	m.ready = append(m.ready, id)
	return true
}

// wait is the action Yield or Block, which is noted when the next turn begins.
func (m *model) wait(id int, a action) {
	m.all[id-1].state = coro.Blocked
	if a.kind == yield {
		m.wake(id)
	}
}

// result is that of an action that does not wait.
func (m *model) result(id int, a action) int {
	switch {
	case a.kind == wake:
		return truth(m.wake(a.n))
	case (a.kind == spawn || a.kind == spawnBySelf) && id <= mostSpawning:
		return m.spawn(a.n)
	case a.kind == look:
		return 10*m.state(a.n) + truth(m.closed)
	}
	return 0
}

// actions are those that a coroutine goes through just now.
func (c *member) actions() []action {
	if c.atEnd {
		return c.b.atEnd
	}
	return c.b.actions
}

// goOn does the actions of a coroutine until one waits (true), panics, or until there are none left.
func (m *model) goOn(id int) bool {
	c := m.all[id-1]
	for ; c.place < len(c.actions()); c.place++ {
		a := c.actions()[c.place]
		switch {
		case a.kind == raise:
			c.panics, c.text = true, string(rune('a'+a.n))
			return false
		case (a.kind == yield || a.kind == block) && m.closed:
			return false
		case (a.kind == yield || a.kind == block) && c.waits:
			c.waits = false
		case a.kind == yield || a.kind == block:
			c.waits = true
			m.wait(id, a)
			return true
		}
		m.trace = append(m.trace, entry{id, a.kind, m.result(id, a)})
	}
	return false
}

// turn is one turn of a coroutine.
func (m *model) turn(id int) {
	c := m.all[id-1]
	if m.goOn(id) {
		return
	}
	if !c.atEnd {
		c.atEnd, c.place = true, 0
		if m.goOn(id) {
			return
		}
	}
	c.state = coro.Done
	if c.panics {
		c.state = coro.Panicked
	}
}

func (m *model) run() int {
	turns := 0
	for !m.closed && len(m.ready) > 0 {
		id := m.ready[0]
		m.ready = m.ready[1:]
		m.turn(id)
		turns++
	}
	return turns
}

func (m *model) close() int {
	if m.closed {
		return 0
	}
	m.closed = true
	var ended []int
	for i, c := range m.all {
		if c.state == coro.Ready || c.state == coro.Blocked {
			c.state = coro.Ended
			ended = append(ended, i+1)
		}
	}
	for _, id := range ended {
		// Only those have run that wait in Yield or Block, which panics now.
		if c := m.all[id-1]; c.waits && !c.atEnd {
			c.atEnd, c.place, c.waits = true, 0, false
			m.goOn(id)
		}
		m.all[id-1].text = ""
	}
	return len(ended)
}

// same compares all that can be seen of a scheduler with the model.
func same(t *testing.T, w *world, m *model) {
	t.Helper()
	counts := make([]int, coro.Ended+1)
	for i, c := range m.all {
		counts[c.state]++
		text := ""
		if c.state == coro.Panicked {
			text = c.text
		}
		if w.s.State(i+1) != c.state || w.s.Text(i+1) != text {
			t.Fatalf("State(%d), Text(%d) = %d, %q, want %d, %q", i+1, i+1, w.s.State(i+1), w.s.Text(i+1), c.state, text)
		}
	}
	for state, n := range counts {
		if w.s.Count(state) != n {
			t.Fatalf("Count(%d) = %d, want %d", state, w.s.Count(state), n)
		}
	}
	if w.s.State(len(m.all)+1) != 0 || w.s.Closed() != m.closed || !slices.Equal(w.trace, m.trace) {
		t.Fatalf("the trace is\n%v, want\n%v", w.trace, m.trace)
	}
}

// actions are random ones; those at the end panic seldom.
func actions(r *rand.Rand, n int) []action {
	var l []action
	for range r.IntN(n + 1) {
		a := action{kind: r.IntN(kinds), n: r.IntN(20)}
		if a.kind == raise && r.IntN(3) > 0 {
			a.kind = wake
		}
		l = append(l, a)
	}
	return l
}

// P18.1 to P18.5: random calls of a scheduler, whose coroutines make random calls, have the results of a model.
func TestRandomCalls(t *testing.T) {
	r := rand.New(rand.NewPCG(18, 53))
	turns, ended := 0, 0
	for range 2000 {
		var bodies []body
		for range 1 + r.IntN(5) {
			bodies = append(bodies, body{actions(r, 10), actions(r, 3)})
		}
		w, m := &world{s: coro.New(), bodies: bodies}, &model{bodies: bodies}
		for range r.IntN(20) {
			n := r.IntN(20)
			switch r.IntN(4) {
			case 0:
				if got, want := w.s.Spawn(w.function(n)), m.spawn(n); got != want {
					t.Fatalf("Spawn() = %d, want %d", got, want)
				}
			case 1:
				if got, want := w.s.Wake(n), m.wake(n); got != want {
					t.Fatalf("Wake(%d) = %v, want %v", n, got, want)
				}
			default:
				got, want := w.s.Run(), m.run()
				if turns += got; got != want {
					t.Fatalf("Run() = %d, want %d", got, want)
				}
			}
			same(t, w, m)
		}
		for range 2 {
			got, want := w.s.Close(), m.close()
			if ended += got; got != want {
				t.Fatalf("Close() = %d, want %d", got, want)
			}
			same(t, w, m)
		}
	}
	if turns < 10000 || ended < 5000 {
		t.Errorf("only %d turns, and %d coroutines ended", turns, ended)
	}
}
