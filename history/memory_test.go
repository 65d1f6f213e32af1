package history_test

import (
	"fmt"
	"testing"

	"clockwork/api"
	"clockwork/history"
)

// rich returns batches with Lists in Lists, which leave a task, a timer and a key.
func rich() []api.Batch {
	v := func() api.Value { return list(list(text("a"), list(integer(1))), integer(2)) }
	ask := func(id uint64) api.Event { return api.Event{Kind: api.Scheduled, ID: id, Name: "a", Value: v()} }
	return []api.Batch{
		batch(5, api.Event{Kind: api.Started, Name: "p", Value: v()}, ask(1), armed(2, 9), ask(3)),
		batch(6, dispatched(1, 1, 9)),
		batch(6, api.Event{Kind: api.Finished, ID: 1, N: 1, Value: v()}),
		batch(6, api.Event{Kind: api.Signal, Name: "s", Text: "k", Value: v()}),
	}
}

// spoilValue overwrites all values in a List.
func spoilValue(v api.Value) {
	for i, x := range v.L {
		spoilValue(x)
		v.L[i] = api.Value{Kind: -1, S: "spoiled"}
	}
}

// spoilBatches overwrites everything behind the slices of batches.
func spoilBatches(batches []api.Batch) {
	for i, b := range batches {
		for j, e := range b.Events {
			spoilValue(e.Value)
			b.Events[j] = api.Event{Kind: -1, Name: "spoiled"}
		}
		batches[i] = api.Batch{Flow: "spoiled"}
	}
}

// Rule 4: a batch is not changed by a call, and may be changed behind it.
func TestArgumentsApart(t *testing.T) {
	want := show(filled(t, rich()...))
	h := history.New("w")
	batches, before := rich(), fmt.Sprintf("%+v", rich())
	for _, b := range batches {
		b.Events = b.Events[:len(b.Events):len(b.Events)]
		add(t, h, b)
	}
	if got := fmt.Sprintf("%+v", batches); got != before {
		t.Errorf("the batches were changed: %s, want %s", got, before)
	}
	spoilBatches(batches)
	if got := show(h); got != want {
		t.Errorf("the history was changed: %s, want %s", got, want)
	}
}

// Rule 4: nothing is read or written behind the end of the slice of events.
func TestEnd(t *testing.T) {
	events := []api.Event{started(), failed(), scheduled(1)}
	h := filled(t, batch(5, events[:1]...))
	is(t, h, 5, 1, 0)
	if len(h.Batches()[0].Events) != 1 || events[1].Kind != api.Failed || events[2].ID != 1 {
		t.Errorf("%+v and %+v", h.Batches(), events)
	}
}

// Rule 4: results may be changed without a change of the history, or of other results.
func TestResultsApart(t *testing.T) {
	h := filled(t, rich()...)
	want := show(h)
	batches, tasks, timers := h.Batches(), h.Tasks(), h.Timers()
	before := fmt.Sprintf("%+v, %+v, %+v", batches, tasks, timers)

	spoilBatches(h.Batches())
	otherTasks, otherTimers := h.Tasks(), h.Timers()
	for i := range otherTasks {
		spoilValue(otherTasks[i].Value)
		otherTasks[i] = history.Task{}
	}
	clear(otherTimers)
	if got := show(h); got != want {
		t.Errorf("the history was changed: %s, want %s", got, want)
	}
	if after := fmt.Sprintf("%+v, %+v, %+v", batches, tasks, timers); after != before {
		t.Errorf("other results were changed: %s, want %s", after, before)
	}
	add(t, h, batch(9, fired(2)), batch(9, dispatched(3, 1, 12)), batch(9, signal(""), completed()))
	if after := fmt.Sprintf("%+v, %+v, %+v", batches, tasks, timers); after != before {
		t.Errorf("results were changed by Add: %s, want %s", after, before)
	}
}

// Rule 4: what a batch of a result has can be changed without a change of its other batches, or of its tasks.
func TestOneResultApart(t *testing.T) {
	v := list(list(integer(1)))
	ask := func(id uint64) api.Event { return api.Event{Kind: api.Scheduled, ID: id, Name: "a", Value: v} }
	h := filled(t, batch(5, api.Event{Kind: api.Started, Name: "p", Value: v}, ask(1), ask(2)),
		batch(5, signal(""), ask(3)))
	batches, tasks := h.Batches(), h.Tasks()
	want := fmt.Sprintf("%+v, %+v", batches[0].Events[2], tasks[2])
	spoilValue(batches[0].Events[0].Value)
	spoilValue(batches[0].Events[1].Value)
	spoilValue(batches[1].Events[1].Value)
	spoilValue(tasks[0].Value)
	spoilValue(tasks[1].Value)
	if got := fmt.Sprintf("%+v, %+v", batches[0].Events[2], tasks[2]); got != want {
		t.Errorf("there is %s, want %s", got, want)
	}
}
