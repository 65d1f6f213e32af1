package coro_test

import (
	"errors"
	"strings"
	"testing"

	"clockwork/coro"
)

// trouble is an error, whose method counts its calls.
type trouble struct{ calls int }

func (e *trouble) Error() string {
	e.calls++
	return strings.Repeat("trouble", e.calls)
}

// wild is an error, whose method panics.
type wild struct{ v any }

func (e wild) Error() string { panic(e.v) }

// word is a string type without, and oath one with the method of an error.
type word string
type oath string

func (o oath) Error() string { return "oath " + string(o) }

// named has a method like that of an error, but is none.
type named struct{}

func (named) Error() int     { return 1 }
func (named) String() string { return "named" }

// panicked checks the state and the text of a coroutine.
func panicked(t *testing.T, s *coro.Scheduler, id int, want string) {
	t.Helper()
	if s.State(id) != coro.Panicked || s.Text(id) != want {
		t.Errorf("State(%d), Text(%d) = %d, %q, want %d, %q", id, id, s.State(id), s.Text(id), coro.Panicked, want)
	}
}

// P18.3: the text of a panic is the string, the result of Error, or "panic".
func TestText(t *testing.T) {
	var none *trouble
	for _, c := range []struct {
		v    any
		want string
	}{
		{"text", "text"},
		{"", ""},
		{"panic", "panic"},
		{"\xff\x00 ä", "\xff\x00 ä"},
		{errors.New("an error"), "an error"},
		{errors.New(""), ""},
		{errors.Join(errors.New("a"), errors.New("b")), "a\nb"},
		{oath("x"), "oath x"},
		{word("x"), "panic"},
		{named{}, "panic"},
		{none, "panic"},
		{wild{"text"}, "panic"},
		{wild{errors.New("text")}, "panic"},
		{wild{wild{7}}, "panic"},
		{7, "panic"},
		{true, "panic"},
		{1.5, "panic"},
		{'a', "panic"},
		{[]byte("text"), "panic"},
		{[]string{"text"}, "panic"},
		{map[string]int{}, "panic"},
		{struct{ s string }{"text"}, "panic"},
		{func() string { return "text" }, "panic"},
		{new(string), "panic"},
	} {
		s := coro.New()
		s.Spawn(func(*coro.Co) { panic(c.v) })
		s.Spawn(func(co *coro.Co) { co.Panic(c.v) })
		turns(t, s, 2)
		panicked(t, s, 1, c.want)
		panicked(t, s, 2, c.want)
		if s.Close() != 0 {
			t.Errorf("a coroutine that has panicked with %v is closed", c.v)
		}
		panicked(t, s, 1, c.want)
	}
}

// P18.3: the panics of Go itself are errors.
func TestTextOfGo(t *testing.T) {
	s := coro.New()
	defer s.Close()
	var l []int
	var m map[string]int
	zero := 0
	s.Spawn(func(c *coro.Co) { l[c.ID()]++ })
	s.Spawn(func(*coro.Co) { m["a"] = 1 })
	s.Spawn(func(*coro.Co) { zero = 1 / zero })
	s.Spawn(func(*coro.Co) { panic(nil) })
	s.Spawn(nil)
	turns(t, s, 5)
	for id, part := range []string{"index out of range", "nil map", "divide by zero", "nil argument", "nil pointer"} {
		if text := s.Text(id + 1); s.State(id+1) != coro.Panicked || !strings.Contains(text, part) {
			t.Errorf("State(%d), Text(%d) = %d, %q", id+1, id+1, s.State(id+1), text)
		}
	}
}

// P18.3: Text is "" for coroutines that have not panicked, and for numbers of none.
func TestNoText(t *testing.T) {
	s := coro.New()
	s.Spawn(func(*coro.Co) {})
	s.Spawn(func(c *coro.Co) { c.Block() })
	s.Spawn(func(c *coro.Co) { panic("text") })
	for id := -1; id < 6; id++ {
		if s.Text(id) != "" {
			t.Errorf("Text(%d) = %q, want none", id, s.Text(id))
		}
	}
	turns(t, s, 3)
	s.Close()
	for id := -1; id < 6; id++ {
		if id != 3 && s.Text(id) != "" {
			t.Errorf("Text(%d) = %q, want none", id, s.Text(id))
		}
	}
	panicked(t, s, 3, "text")
}

// P18.3: a text is what Error returned when the coroutine panicked, and stays so.
func TestTextStays(t *testing.T) {
	s := coro.New()
	defer s.Close()
	e := &trouble{}
	s.Spawn(func(*coro.Co) { panic(e) })
	s.Spawn(func(*coro.Co) { panicked(t, s, 1, "trouble") })
	turns(t, s, 2)
	e.calls = 5
	for range 3 {
		panicked(t, s, 1, "trouble")
	}
	if e.calls != 5 {
		t.Errorf("Error was called %d times again", e.calls-5)
	}
}

// P18.3, P7: a panic does not leave Run, and changes no other coroutine.
func TestPanicAlone(t *testing.T) {
	s := coro.New()
	defer s.Close()
	var trace []int
	for i := range 6 {
		s.Spawn(func(c *coro.Co) {
			trace = append(trace, c.ID())
			if i%2 == 1 {
				c.Yield()
				c.Panic("odd")
			}
			c.Block()
			trace = append(trace, 10*c.ID())
		})
	}
	turns(t, s, 9)
	states(t, s, coro.Blocked, coro.Panicked, coro.Blocked, coro.Panicked, coro.Blocked, coro.Panicked)
	for id := range 6 {
		s.Wake(id + 1)
	}
	turns(t, s, 3)
	states(t, s, coro.Done, coro.Panicked, coro.Done, coro.Panicked, coro.Done, coro.Panicked)
	traced(t, trace, 1, 2, 3, 4, 5, 6, 10, 30, 50)
}

// P18.3: a coroutine that recovers its own panic goes on, and is done at its end.
func TestRecovered(t *testing.T) {
	s := coro.New()
	defer s.Close()
	var got any
	guarded := func(c *coro.Co) {
		defer func() { got = recover() }()
		c.Panic(7)
	}
	s.Spawn(func(c *coro.Co) {
		guarded(c)
		c.Yield()
	})
	turns(t, s, 2)
	states(t, s, coro.Done)
	if got != 7 || s.Text(1) != "" {
		t.Errorf("Panic panics with %v, and the text is %q", got, s.Text(1))
	}
}

// P18.3: Panic panics with the same value.
func TestPanicValue(t *testing.T) {
	e := errors.New("an error")
	for _, v := range []any{"text", e, 7, struct{}{}} {
		s := coro.New()
		s.Spawn(func(c *coro.Co) {
			defer func() {
				if got := recover(); got != v {
					t.Errorf("Panic(%v) panics with %v", v, got)
				}
			}()
			c.Panic(v)
			t.Errorf("Panic(%v) has returned", v)
		})
		turns(t, s, 1)
		states(t, s, coro.Done)
	}
}

// P18.2, P18.3: deferred functions of a coroutine that panics may yield and block, and panic themselves.
func TestDeferred(t *testing.T) {
	s := coro.New()
	defer s.Close()
	var trace []int
	s.Spawn(func(c *coro.Co) {
		defer func() {
			trace = append(trace, 1)
			c.Yield()
			trace = append(trace, 3)
			c.Block()
			trace = append(trace, 4)
		}()
		panic("first")
	})
	s.Spawn(func(*coro.Co) {
		trace = append(trace, 2)
		states(t, s, coro.Ready, coro.Ready, coro.Ready)
	})
	s.Spawn(func(*coro.Co) {
		defer func() { panic("second") }()
		panic("first")
	})
	turns(t, s, 4)
	states(t, s, coro.Blocked, coro.Done, coro.Panicked)
	panicked(t, s, 3, "second")
	s.Wake(1)
	turns(t, s, 1)
	panicked(t, s, 1, "first")
	traced(t, trace, 1, 2, 3, 4)
}
