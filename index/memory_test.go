package index_test

import (
	"fmt"
	"slices"
	"testing"

	"clockwork/api"
	"clockwork/index"
)

// rich returns batches with Lists in Lists.
func rich() []api.Batch {
	v := func() api.Value { return list(list(text("a"), list(integer(1))), integer(2)) }
	return []api.Batch{
		of("w", 5, api.Event{Kind: api.Started, Name: "p", Value: v()}, api.Event{Kind: api.Scheduled, ID: 1, Name: "a", Value: v()}),
		of("v", 5, api.Event{Kind: api.Started, Name: "p", Value: v()}),
		of("v", 6, api.Event{Kind: api.Signal, Name: "s", Text: "k", Value: v()}, api.Event{Kind: api.Completed, Value: v()}),
	}
}

// spoilValue overwrites all values in a List.
func spoilValue(v api.Value) {
	for i, x := range v.L {
		spoilValue(x)
		v.L[i] = api.Value{Kind: -1, S: "spoiled"}
	}
}

// spoil overwrites everything behind the slices of batches.
func spoil(batches []api.Batch) {
	for i, b := range batches {
		for j, e := range b.Events {
			spoilValue(e.Value)
			b.Events[j] = api.Event{Kind: -1, Name: "spoiled"}
		}
		batches[i] = api.Batch{Flow: "spoiled"}
	}
}

// Rule 4: a batch is not changed by a call, and may be changed behind it.
func TestBatchesApart(t *testing.T) {
	want := show(filled(t, rich()...))
	batches, before := rich(), fmt.Sprintf("%+v", rich())
	x := filled(t, batches...)
	if got := fmt.Sprintf("%+v", batches); got != before {
		t.Errorf("the batches were changed: %s, want %s", got, before)
	}
	spoil(batches)
	if got := show(x); got != want {
		t.Errorf("the index was changed: %s, want %s", got, want)
	}
}

// Rule 4: records are not changed by Build, and may be changed behind it.
func TestRecordsOfBuildApart(t *testing.T) {
	records := forms(t, rich()...)
	ends := make([][]byte, len(records))
	for i, record := range records {
		ends[i] = append(slices.Clone(record), 7, 7)[:len(record)]
	}
	x, _, _ := index.Build(ends...)
	if fmt.Sprint(ends) != fmt.Sprint(records) {
		t.Errorf("the records are %x, want %x", ends, records)
	}
	want := show(filled(t, rich()...))
	for i := range ends {
		clear(ends[i])
		ends[i] = nil
	}
	if got := show(x); got != want {
		t.Errorf("the index was changed: %s, want %s", got, want)
	}
}

// Rule 4: nothing is read or written behind the end of the slice of events, or of records.
func TestEnds(t *testing.T) {
	events := []api.Event{started(), failed(), scheduled(1)}
	x := filled(t, of("w", 5, events[:1]...))
	tells(t, x, []string{"w"}, []string{"w"}, 5)
	if events[1].Kind != api.Failed || events[2].ID != 1 {
		t.Errorf("the events are %+v", events)
	}
	records := append(x.Records(), []byte{1})
	builds(t, records[:1], of("w", 5, started()))
	if len(records[1]) != 1 {
		t.Errorf("the records are %x", records)
	}
}

// Rule 4: results may be changed without a change of the index, or of other results.
func TestResultsApart(t *testing.T) {
	x := filled(t, rich()...)
	want := show(x)
	names, open, records := x.Names(), x.Open(), x.Records()
	before := fmt.Sprint(names, open, records)

	for _, record := range x.Records() {
		clear(append(record, 0)) // also what could be behind a record
	}
	clear(x.Records())
	clear(x.Names())
	clear(x.Open())
	_ = append(x.Names(), "spoiled")
	if got := show(x); got != want {
		t.Errorf("the index was changed: %s, want %s", got, want)
	}
	add(t, x, of("u", 7, started()), of("w", 7, dispatched(1, 1, 9)), of("u", 8, signal(""), completed()))
	if after := fmt.Sprint(names, open, records); after != before {
		t.Errorf("results were changed: %s, want %s", after, before)
	}
	tells(t, x, []string{"w", "v", "u"}, []string{"w"}, 8)
}

// Rule 4: the records of one result share no memory with each other.
func TestOneResultApart(t *testing.T) {
	records := filled(t, rich()...).Records()
	want := forms(t, rich()...)
	clear(records[1])
	records[0] = append(records[0], 1, 2, 3, 4, 5, 6, 7, 8)[:len(records[0])]
	if fmt.Sprint(records[0], records[2]) != fmt.Sprint(want[0], want[2]) {
		t.Errorf("the records are %x, want %x", records, want)
	}
}
