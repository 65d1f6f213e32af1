package history_test

import (
	"cmp"
	"fmt"
	"math/rand/v2"
	"slices"
	"testing"

	"clockwork/api"
	"clockwork/event"
	"clockwork/history"
)

// model is a history as the chapter's words say it. It is a value: changing a copy changes nothing else.
type model struct {
	batches []api.Batch
	tasks   []history.Task
	timers  []history.Timer
	keys    []string
	next    uint64
	closed  int
}

// copied returns a model that shares no slices.
func (m model) copied() model {
	m.batches, m.tasks = slices.Clone(m.batches), slices.Clone(m.tasks)
	m.timers, m.keys = slices.Clone(m.timers), slices.Clone(m.keys)
	return m
}

func (m model) at() uint64 {
	if len(m.batches) == 0 {
		return 0
	}
	return m.batches[len(m.batches)-1].At
}

// with returns the model of the workflow w with a batch, or the code for which it does not fit.
func (m model) with(b api.Batch) (model, api.Code) {
	invalid := func(e api.Event) bool { return !event.Valid(e) }
	if b.At > api.MaxTick || len(b.Events) == 0 || slices.ContainsFunc(b.Events, invalid) {
		return m, api.ErrRange
	}
	if b.Flow != "w" {
		return m, api.ErrName
	}
	if m.closed != 0 {
		return m, api.ErrClosed
	}
	if b.At < m.at() || (b.Events[0].Kind == api.Started) != (len(m.batches) == 0) {
		return m, api.ErrOrder
	}
	c := m.copied()
	for i, e := range b.Events {
		if (e.Kind <= api.Signal) != (i == 0) || !c.step(e, b.At, len(b.Events)-1-i) {
			return m, api.ErrOrder
		}
	}
	c.batches = append(c.batches, b)
	return c, api.OK
}

// step changes the model by an event, or returns false if it is not possible. There are further events in the batch.
func (m *model) step(e api.Event, at uint64, further int) bool {
	i := slices.IndexFunc(m.tasks, func(t history.Task) bool { return t.ID == e.ID })
	switch e.Kind {
	case api.Started:
		return true
	case api.Dispatched:
		if i < 0 || m.tasks[i].Flying || m.tasks[i].N+1 != e.N || m.tasks[i].At > at || e.At < at || further > 0 {
			return false
		}
		m.tasks[i].N, m.tasks[i].At, m.tasks[i].Flying = e.N, e.At, true
		return true
	case api.Finished, api.Broken:
		if i < 0 || m.tasks[i].N != e.N || !m.tasks[i].Flying {
			return false
		}
		if e.Kind == api.Finished || e.At == 0 {
			m.tasks = slices.Delete(m.tasks, i, i+1)
			return true
		}
		m.tasks[i].Flying, m.tasks[i].At = false, e.At
		return e.At >= at && further == 0
	case api.Fired:
		j := slices.IndexFunc(m.timers, func(t history.Timer) bool { return t.ID == e.ID })
		if j < 0 || m.timers[j].At > at {
			return false
		}
		m.timers = slices.Delete(m.timers, j, j+1)
		return true
	case api.Signal:
		if e.Text == "" {
			return true
		}
		m.keys = append(m.keys, e.Text)
		return !slices.Contains(m.keys[:len(m.keys)-1], e.Text)
	case api.Scheduled, api.Armed:
		m.next++
		if e.Kind == api.Scheduled {
			m.tasks = append(m.tasks, history.Task{ID: e.ID, Name: e.Name, Value: e.Value, At: at})
			return e.ID == m.next-1
		}
		m.timers = append(m.timers, history.Timer{ID: e.ID, At: e.At})
		return e.ID == m.next-1 && e.At >= at
	}
	m.closed, m.tasks, m.timers = e.Kind, nil, nil
	return further == 0
}

// show prints everything that a history like the model tells.
func (m model) show() string {
	has := []bool{}
	for _, key := range keys {
		has = append(has, slices.Contains(m.keys, key))
	}
	return fmt.Sprintf("flow %q, closed %d, at %d, next %d, keys %v, tasks %+v, timers %+v, batches %+v",
		"w", m.closed, m.at(), m.next, has, m.tasks, m.timers, m.batches)
}

// one returns any of xs.
func one[T any](r *rand.Rand, xs ...T) T { return xs[r.IntN(len(xs))] }

// near returns x, or now and then a number that is a little less or greater.
func near(r *rand.Rand, x uint64) uint64 {
	if r.IntN(15) > 0 {
		return x
	}
	return max(x+uint64(r.IntN(5)), 2) - 2
}

// outsider returns an event from outside that is often possible at a tick.
func (m model) outsider(r *rand.Rand, at uint64) api.Event {
	if len(m.batches) == 0 && r.IntN(20) > 0 {
		return started()
	}
	if len(m.timers) > 0 && r.IntN(3) == 0 {
		byTick := func(a, b history.Timer) int { return cmp.Compare(a.At, b.At) }
		return fired(near(r, one(r, slices.MinFunc(m.timers, byTick), one(r, m.timers...)).ID))
	}
	if len(m.tasks) > 0 && r.IntN(4) > 0 {
		task := one(r, m.tasks...)
		n := int(near(r, uint64(task.N)))
		if task.Flying == (r.IntN(15) == 0) {
			return dispatched(near(r, task.ID), n+1, near(r, at+uint64(r.IntN(4))))
		}
		switch r.IntN(4) {
		case 0:
			return finished(near(r, task.ID), n)
		case 1:
			return broken(near(r, task.ID), n, 0)
		}
		return broken(near(r, task.ID), n, near(r, at+uint64(r.IntN(3))))
	}
	return one(r, signal(""), signal(one(r, keys...)), fired(near(r, 3)), started())
}

// random returns a batch that often fits.
func (m model) random(r *rand.Rand) api.Batch {
	at := near(r, m.at()+uint64(r.IntN(3)))
	b := api.Batch{Flow: "w", At: at, Events: []api.Event{m.outsider(r, at)}}
	next := m.next
	if kind := b.Events[0].Kind; kind == api.Dispatched || kind == api.Broken && b.Events[0].At != 0 {
		next += uint64(r.IntN(15) / 14) // commands, which are not possible there
	} else {
		next += uint64(r.IntN(4))
	}
	for id := m.next; id < next; id++ {
		b.Events = append(b.Events, one(r, scheduled(near(r, id)), armed(near(r, id), near(r, at+uint64(r.IntN(5))))))
	}
	if r.IntN(30) == 0 {
		b.Events = append(b.Events, one(r, closing()...))
	}
	return spoiled(r, b)
}

// spoiled returns a batch, or now and then one in which something is wrong.
func spoiled(r *rand.Rand, b api.Batch) api.Batch {
	i := r.IntN(len(b.Events))
	switch r.IntN(120) {
	case 0:
		b.Events = nil
	case 1:
		b.Flow = one(r, "", "x", "ww")
	case 2:
		b.At = one(r, 0, 1<<63, b.At|1<<63)
	case 3:
		b.Events[i] = one(r, append(append(outside(), closing()...), api.Event{}, api.Event{Kind: 12})...)
	case 4:
		b.Events[i].Kind = r.IntN(14)
	case 5:
		b.Events = append(b.Events, one(r, append(outside(), closing()...)...))
	case 6:
		b.Events = slices.Delete(b.Events, i, i+1)
	case 7:
		b.Events = slices.Insert(b.Events, i, b.Events[i])
	case 8:
		b.Events[i].N = one(r, -1, 0, 1<<31)
	case 9:
		b.Events[0], b.Events[i] = b.Events[i], b.Events[0]
	}
	return b
}

// P12.1 to P12.4: histories to which random batches are added, compared with the model; and their batches, added to
// others one after the other.
func TestModel(t *testing.T) {
	r := rand.New(rand.NewPCG(35, 12))
	seen := map[api.Code]int{}
	kinds := map[int]int{}
	for range 400 {
		h, m := history.New("w"), model{next: 1}
		var states []string
		for range 10 + r.IntN(50) {
			states = append(states, show(h))
			b := m.random(r)
			after, want := m.with(b)
			fits := h.Fits(b)
			if got := show(h); got != m.show() {
				t.Fatalf("behind Fits of %+v: %s, want %s", b, got, m.show())
			}
			code := h.Add(b)
			if got := show(h); fits != want || code != want || got != after.show() {
				t.Fatalf("Fits of %+v: %v, Add: %v, want %v\nbehind %s\nthere is %s,\n    want %s",
					b, fits, code, want, m.show(), got, after.show())
			}
			if seen[code]++; code == api.OK {
				kinds[b.Events[0].Kind]++
			} else {
				states = states[:len(states)-1]
			}
			m = after
		}
		again(t, h.Batches(), append(states, show(h))...)
	}
	for _, code := range []api.Code{api.OK, api.ErrRange, api.ErrName, api.ErrClosed, api.ErrOrder} {
		if seen[code] < 30 {
			t.Errorf("only %d times the code %v", seen[code], code)
		}
	}
	for kind := api.Started; kind <= api.Signal; kind++ {
		if kinds[kind] < 300 {
			t.Errorf("only %d batches with an event of the kind %d", kinds[kind], kind)
		}
	}
}

// again adds the batches of a history, one after the other, to a new one, which has the same states as it had.
func again(t *testing.T, batches []api.Batch, states ...string) {
	t.Helper()
	h := history.New("w")
	for i, want := range states {
		if got := show(h); got != want {
			t.Fatalf("behind the first %d batches: %s, want %s", i, got, want)
		}
		if i < len(batches) {
			add(t, h, batches[i])
		}
	}
	if len(states) != len(batches)+1 {
		t.Fatalf("%d states of %d batches", len(states), len(batches))
	}
}

// P12.4: each beginning of the batches leads to a history on its own, whose batches they are; without the first one,
// they do not fit.
func TestBeginnings(t *testing.T) {
	batches := append(busy(t).Batches(), batch(10, fired(4), scheduled(6)), batch(11, finished(1, 2), completed()))
	for n := range batches {
		h := filled(t, batches[:n]...)
		if got, want := fmt.Sprintf("%+v", h.Batches()), fmt.Sprintf("%+v", batches[:n]); got != want {
			t.Errorf("the batches are %s, want %s", got, want)
		}
		if n > 0 {
			refuses(t, history.New("w"), api.ErrOrder, batches[n])
		}
	}
}
