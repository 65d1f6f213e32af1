package batch_test

import (
	"bytes"
	"fmt"
	"slices"
	"testing"

	"clockwork/api"
	"clockwork/batch"
)

// rich returns a batch with Lists in Lists, both in events from outside and in commands.
func rich() api.Batch {
	v := func() api.Value { return list(list(text("a"), list(integer(1))), integer(2)) }
	return flow(api.Event{Kind: api.Started, Name: "p", Value: v()}, scheduled(v()), completed(v()))
}

// spoilValue overwrites all values in a List.
func spoilValue(v api.Value) {
	for i, x := range v.L {
		spoilValue(x)
		v.L[i] = api.Value{Kind: -1, S: "spoiled"}
	}
}

// spoil overwrites everything behind a slice of events.
func spoil(es []api.Event) {
	for i, e := range es {
		spoilValue(e.Value)
		es[i] = api.Event{Kind: -1, Name: "spoiled"}
	}
}

// full prints all of x.
func full(x any) string { return fmt.Sprintf("%+v", x) }

// P13.1 and rule 4: what Clone and Commands return shares no memory with a batch, or with other results.
func TestCopiesApart(t *testing.T) {
	b := rich()
	first, second := batch.Clone(b), batch.Clone(b)
	firsts, seconds := batch.Commands(b), batch.Commands(b)
	want, commands := full(rich()), full(rich().Events[1:])
	spoil(first.Events)
	spoil(firsts)
	if full(b) != want || full(second) != want || full(seconds) != commands {
		t.Errorf("the batch %s, its clone %s and its commands %s were changed", show(b), show(second), full(seconds))
	}
	spoil(b.Events)
	if full(second) != want || full(seconds) != commands {
		t.Errorf("the clone %s and the commands %s were changed with the batch", show(second), full(seconds))
	}
}

// P13.1 and rule 4: the events of a result share no memory with each other, even if those of the batch do.
func TestEventsApart(t *testing.T) {
	v := list(list(integer(1)))
	b := flow(scheduled(v), scheduled(v))
	c, commands := batch.Clone(b), batch.Commands(b)
	want := full(b.Events[1])
	spoilValue(c.Events[0].Value)
	spoilValue(commands[0].Value)
	if full(c.Events[1]) != want || full(commands[1]) != want || full(b.Events[1]) != want {
		t.Errorf("%+v and %+v were changed with the events in front of them", c.Events[1], commands[1])
	}
}

// P13.1: also what a valid value does not have is cloned.
func TestInvalidApart(t *testing.T) {
	inner := []api.Value{list(integer(1))}
	b := flow(api.Event{Kind: 12, Value: api.Value{Kind: 7, L: inner}})
	c, commands := batch.Clone(b), batch.Commands(b)
	want := full(b.Events)
	spoilValue(b.Events[0].Value)
	if full(c.Events) != want || full(commands) != want {
		t.Errorf("%+v and %+v, want %s", c.Events, commands, want)
	}
}

// P13.2 and rule 4: forms, and batches that are parsed, share no memory with anything else.
func TestFormsApart(t *testing.T) {
	b := rich()
	form, _ := batch.Bytes(b)
	other, _ := batch.Bytes(b)
	clear(other)
	if !bytes.Equal(form, slowForm(b)) {
		t.Errorf("%q was changed with another result", form)
	}
	first, _ := batch.Parse(form)
	second, _ := batch.Parse(form)
	clear(form)
	spoil(first.Events)
	if full(second) != full(rich()) {
		t.Errorf("%s was changed with its form, or with another result", show(second))
	}
}

// Rule 4: no call changes its arguments, or writes behind the end of a slice.
func TestArgumentsKept(t *testing.T) {
	for _, b := range append(valid(), invalid()...) {
		events := append(slices.Clone(b.Events), fired(77), completed(integer(77)))
		form := append(slowForm(b), 7, 7, 7)
		before, bytesBefore := full(events), slices.Clone(form)
		b.Events = events[:len(b.Events)]
		batch.Valid(b)
		batch.Same(b, b)
		batch.Clone(b)
		batch.Bytes(b)
		batch.Text(b)
		batch.Commands(b)
		batch.Parse(form[:len(form)-3])
		if full(events) != before || !bytes.Equal(form, bytesBefore) {
			t.Errorf("%s or its form was changed", show(b))
		}
	}
}
