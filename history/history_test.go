package history_test

import (
	"fmt"
	"math"
	"slices"
	"strings"
	"testing"

	"clockwork/api"
	"clockwork/history"
)

func integer(n int64) api.Value      { return api.Value{Kind: api.Int, N: n} }
func text(s string) api.Value        { return api.Value{Kind: api.Text, S: s} }
func list(vs ...api.Value) api.Value { return api.Value{Kind: api.List, L: vs} }

func started() api.Event { return api.Event{Kind: api.Started, Name: "p", Value: integer(7)} }

func dispatched(id uint64, n int, at uint64) api.Event {
	return api.Event{Kind: api.Dispatched, ID: id, N: n, At: at}
}

func finished(id uint64, n int) api.Event {
	return api.Event{Kind: api.Finished, ID: id, N: n, Value: text("done")}
}

func broken(id uint64, n int, at uint64) api.Event {
	return api.Event{Kind: api.Broken, ID: id, N: n, At: at, Text: "no"}
}

func fired(id uint64) api.Event { return api.Event{Kind: api.Fired, ID: id} }

func signal(key string) api.Event {
	return api.Event{Kind: api.Signal, Name: "s", Text: key, Value: integer(1)}
}

func scheduled(id uint64) api.Event {
	return api.Event{Kind: api.Scheduled, ID: id, Name: fmt.Sprint("a", id), Value: list(integer(int64(id)))}
}

func armed(id, at uint64) api.Event { return api.Event{Kind: api.Armed, ID: id, At: at} }
func completed() api.Event          { return api.Event{Kind: api.Completed, Value: text("end")} }
func failed() api.Event             { return api.Event{Kind: api.Failed, Text: "failed"} }
func panicked() api.Event           { return api.Event{Kind: api.Panicked, Text: "panicked"} }

// closing returns an event of each kind that closes a workflow.
func closing() []api.Event { return []api.Event{completed(), failed(), panicked()} }

// outside returns an event of each kind that comes from outside; no history without tasks and timers takes the last four.
func outside() []api.Event {
	return []api.Event{started(), signal(""), dispatched(1, 1, 9), finished(1, 1), broken(1, 1, 0), fired(1)}
}

// batch returns a batch of the workflow w.
func batch(at uint64, events ...api.Event) api.Batch {
	return api.Batch{Flow: "w", At: at, Events: events}
}

// task returns the task of scheduled.
func task(id uint64, n int, flying bool, at uint64) history.Task {
	return history.Task{ID: id, Name: fmt.Sprint("a", id), Value: list(integer(int64(id))), N: n, Flying: flying, At: at}
}

// keys are those that the tests use, and some others.
var keys = []string{
	"", "k", "l", "m", "kk", "w", "s", "a1", "\x00", "\xFF", strings.Repeat("k", 999), strings.Repeat("k", 1000),
}

// show prints everything that a history tells.
func show(h *history.History) string {
	has := []bool{}
	for _, key := range keys {
		has = append(has, h.Has(key))
	}
	return fmt.Sprintf("flow %q, closed %d, at %d, next %d, keys %v, tasks %+v, timers %+v, batches %+v",
		h.Flow(), h.Closed(), h.At(), h.Next(), has, h.Tasks(), h.Timers(), h.Batches())
}

// add fails the test unless the batches fit in the history, one after the other.
func add(t *testing.T, h *history.History, batches ...api.Batch) {
	t.Helper()
	for _, b := range batches {
		if code := h.Fits(b); code != api.OK {
			t.Fatalf("Fits of %.300s: %v", fmt.Sprintf("%+v", b), code)
		}
		if code := h.Add(b); code != api.OK {
			t.Fatalf("Add of %.300s: %v", fmt.Sprintf("%+v", b), code)
		}
	}
}

// filled returns a history of the workflow w with some batches.
func filled(t *testing.T, batches ...api.Batch) *history.History {
	t.Helper()
	h := history.New("w")
	add(t, h, batches...)
	return h
}

// refuses fails the test unless none of the batches fits, each because of the code, and the history stays the same.
func refuses(t *testing.T, h *history.History, want api.Code, batches ...api.Batch) {
	t.Helper()
	before := show(h)
	for _, b := range batches {
		if code := h.Fits(b); code != want {
			t.Errorf("Fits of %.300s: %v, want %v", fmt.Sprintf("%+v", b), code, want)
		}
		if code := h.Add(b); code != want {
			t.Errorf("Add of %.300s: %v, want %v", fmt.Sprintf("%+v", b), code, want)
		}
	}
	if after := show(h); after != before {
		t.Errorf("the history was changed: %.1000s, want %.1000s", after, before)
	}
}

// holds fails the test unless the history has these tasks and timers.
func holds(t *testing.T, h *history.History, tasks []history.Task, timers ...history.Timer) {
	t.Helper()
	if got, want := fmt.Sprintf("%+v", h.Tasks()), fmt.Sprintf("%+v", tasks); got != want {
		t.Errorf("the tasks are %s, want %s", got, want)
	}
	if got := h.Timers(); !slices.Equal(got, timers) {
		t.Errorf("the timers are %v, want %v", got, timers)
	}
}

// is fails the test unless the history has this tick, number of the next command and kind of its end.
func is(t *testing.T, h *history.History, at, next uint64, closed int) {
	t.Helper()
	if h.At() != at || h.Next() != next || h.Closed() != closed {
		t.Errorf("At %d, Next %d, Closed %d, want %d, %d, %d", h.At(), h.Next(), h.Closed(), at, next, closed)
	}
}

// P12.1, P12.2: a history without batches, of workflows with any name.
func TestNew(t *testing.T) {
	for _, flow := range []string{"", "w", "W", "\x00", "\xFF\xFE", "é", strings.Repeat("w", 100000)} {
		h := history.New(flow)
		if h.Flow() != flow || len(h.Batches()) != 0 {
			t.Errorf("of %.20q: Flow %.20q, Batches %v", flow, h.Flow(), h.Batches())
		}
		is(t, h, 0, 1, 0)
		holds(t, h, nil)
		for _, key := range keys {
			if h.Has(key) {
				t.Errorf("there was a signal with the key %.20q", key)
			}
		}
		add(t, h, api.Batch{Flow: flow, Events: []api.Event{started()}})
		refuses(t, h, api.ErrName, api.Batch{Flow: flow + "x", Events: []api.Event{signal("")}})
	}
}

// The chapter's types and functions: what is said of a nil History.
func TestNil(t *testing.T) {
	var h *history.History
	for _, b := range []api.Batch{{}, batch(1, started()), {Events: []api.Event{started()}}, batch(1<<63, started())} {
		if fits, code := h.Fits(b), h.Add(b); fits != api.ErrNil || code != api.ErrNil {
			t.Errorf("Fits of %+v: %v, Add: %v", b, fits, code)
		}
	}
	is(t, h, 0, 0, 0)
	holds(t, h, nil)
	if h.Flow() != "" || len(h.Batches()) != 0 || h.Has("") || h.Has("k") {
		t.Errorf("Flow %q, Batches %v, Has %v and %v", h.Flow(), h.Batches(), h.Has(""), h.Has("k"))
	}
}

// P12.2, P12.3: the chapter's example, and further commands of the Started.
func TestStarted(t *testing.T) {
	h := filled(t, batch(5, started()))
	is(t, h, 5, 1, 0)
	holds(t, h, nil)

	h = filled(t, batch(5, started(), scheduled(1)))
	is(t, h, 5, 2, 0)
	holds(t, h, []history.Task{task(1, 0, false, 5)})

	h = filled(t, batch(5, started(), armed(1, 5), scheduled(2), scheduled(3), armed(4, 6)))
	is(t, h, 5, 5, 0)
	holds(t, h, []history.Task{task(2, 0, false, 5), task(3, 0, false, 5)},
		history.Timer{ID: 1, At: 5}, history.Timer{ID: 4, At: 6})
	if got := fmt.Sprintf("%+v", h.Batches()); got != fmt.Sprintf("%+v", []api.Batch{
		batch(5, started(), armed(1, 5), scheduled(2), scheduled(3), armed(4, 6)),
	}) {
		t.Errorf("the batches are %s", got)
	}
}

// P12.1 to P12.3: a task with three attempts.
func TestTask(t *testing.T) {
	h := filled(t, batch(5, started(), scheduled(1)), batch(6, dispatched(1, 1, 9)))
	is(t, h, 6, 2, 0)
	holds(t, h, []history.Task{task(1, 1, true, 9)})
	add(t, h, batch(7, broken(1, 1, 8)))
	holds(t, h, []history.Task{task(1, 1, false, 8)})
	add(t, h, batch(8, dispatched(1, 2, 8)))
	holds(t, h, []history.Task{task(1, 2, true, 8)})
	add(t, h, batch(20, broken(1, 2, 20)), batch(20, dispatched(1, 3, api.MaxTick)))
	holds(t, h, []history.Task{task(1, 3, true, api.MaxTick)})
	is(t, h, 20, 2, 0)

	same := filled(t, h.Batches()...)
	add(t, h, batch(21, finished(1, 3), scheduled(2)))
	holds(t, h, []history.Task{task(2, 0, false, 21)})
	is(t, h, 21, 3, 0)
	add(t, same, batch(21, broken(1, 3, 0), armed(2, 30)))
	holds(t, same, nil, history.Timer{ID: 2, At: 30})
	is(t, same, 21, 3, 0)
	for _, g := range []*history.History{h, same} {
		refuses(t, g, api.ErrOrder, batch(21, finished(1, 3)), batch(21, broken(1, 3, 0)),
			batch(21, dispatched(1, 4, 30)),
			batch(21, dispatched(1, 1, 30)), batch(21, broken(1, 3, 30)))
	}
}

// P12.1, P12.3: a timer is done when it has fired, which it does once.
func TestTimer(t *testing.T) {
	h := filled(t, batch(5, started(), armed(1, 9), armed(2, 9), armed(3, 7)))
	refuses(t, h, api.ErrOrder, batch(6, fired(3)), batch(8, fired(1)), batch(8, fired(4)))
	add(t, h, batch(7, fired(3), armed(4, 7)))
	holds(t, h, nil, history.Timer{ID: 1, At: 9}, history.Timer{ID: 2, At: 9}, history.Timer{ID: 4, At: 7})
	refuses(t, h, api.ErrOrder, batch(7, fired(3)), batch(20, fired(3)))
	add(t, h, batch(30, fired(2)), batch(30, fired(4)))
	holds(t, h, nil, history.Timer{ID: 1, At: 9})
	add(t, h, batch(api.MaxTick, fired(1), armed(5, api.MaxTick)), batch(api.MaxTick, fired(5)))
	holds(t, h, nil)
	is(t, h, api.MaxTick, 6, 0)
}

// P12.1, P12.2: there is one signal with a key, whatever its name, but there are many without one.
func TestKeys(t *testing.T) {
	h := filled(t, batch(5, started()))
	long := strings.Repeat("k", 1000)
	for _, key := range []string{"k", "kk", long, long[1:], "\x00", "\xFF"} {
		if h.Has(key) {
			t.Errorf("there was a signal with the key %.20q", key)
		}
		add(t, h, batch(5, signal("")), batch(5, signal(key)), batch(5, signal("")))
		if !h.Has(key) || h.Has("") || h.Has("s") || h.Has("w") {
			t.Errorf("Has(%.20q) is %v", key, h.Has(key))
		}
		refuses(t, h, api.ErrOrder, batch(5, signal(key)), batch(5, signal(key), scheduled(1)), batch(7, signal(key)),
			batch(5, api.Event{Kind: api.Signal, Name: "t", Text: key}))
	}
	refuses(t, h, api.ErrOrder, batch(5, signal("l"), scheduled(2)), batch(4, signal("l")))
	if h.Has("l") {
		t.Error("the key of a signal that was not added")
	}
	add(t, h, batch(5, signal("l"), scheduled(1)))
}

// P12.2: only the Text of a Signal is a key.
func TestOtherTextsAreNoKeys(t *testing.T) {
	h := filled(t, batch(5, started(), scheduled(1)), batch(5, dispatched(1, 1, 9)), batch(5, broken(1, 1, 0), failed()))
	if h.Has("no") || h.Has("failed") || h.Has("p") || h.Has("a1") {
		t.Error("there was no signal")
	}
}

// P12.2, P12.3: after each of its ends, a workflow has neither tasks nor timers, but all else.
func TestClosed(t *testing.T) {
	for _, end := range closing() {
		if h := filled(t, batch(5, started(), end)); h.Closed() != end.Kind {
			t.Errorf("Closed is %d, want %d", h.Closed(), end.Kind)
		}
		h := filled(t, batch(5, started(), scheduled(1), armed(2, 9), scheduled(3)), batch(5, dispatched(1, 1, 9)),
			batch(6, signal("k")))
		is(t, h, 6, 4, 0)
		other := filled(t, h.Batches()...)
		add(t, h, batch(8, finished(1, 1), scheduled(4), armed(5, 9), end))
		is(t, h, 8, 6, end.Kind)
		holds(t, h, nil)
		if !h.Has("k") || len(h.Batches()) != 4 {
			t.Errorf("Has is %v, and there are %d batches", h.Has("k"), len(h.Batches()))
		}
		for _, e := range outside() {
			refuses(t, h, api.ErrClosed, batch(8, e), batch(9, e), batch(0, e), batch(8, e, end), batch(8, end, e))
		}
		is(t, other, 6, 4, 0)
		holds(t, other, []history.Task{task(1, 1, true, 9), task(3, 0, false, 5)}, history.Timer{ID: 2, At: 9})
		add(t, other, batch(6, signal("l"), end))
		is(t, other, 6, 4, end.Kind)
	}
}

// P12.3: tasks and timers are in the order of their IDs, not of their ticks or of what has happened to them.
func TestAscending(t *testing.T) {
	const n, at = 700, 1000
	first := []api.Event{started()}
	for id := uint64(1); id <= n; id += 2 {
		first = append(first, scheduled(id), armed(id+1, at-id))
	}
	h := filled(t, batch(5, first...))
	for id := uint64(n - 1); id < n; id -= 2 {
		if id%3 == 0 {
			add(t, h, batch(at, dispatched(id, 1, at+id)))
		}
		if id%5 == 0 {
			add(t, h, batch(at, fired(id+1)))
		}
	}
	var tasks []history.Task
	var timers []history.Timer
	for id := uint64(1); id <= n; id += 2 {
		if id%3 == 0 {
			tasks = append(tasks, task(id, 1, true, at+id))
		} else {
			tasks = append(tasks, task(id, 0, false, 5))
		}
		if id%5 != 0 {
			timers = append(timers, history.Timer{ID: id + 1, At: at - id})
		}
	}
	holds(t, h, tasks, timers...)
	is(t, h, at, n+1, 0)
}

// P12.1: many events, in one batch and in many, are added, and each kind of question is answered about them.
func TestMany(t *testing.T) {
	const n = 20000
	first := []api.Event{started()}
	for id := uint64(1); id <= n; id++ {
		first = append(first, scheduled(id))
	}
	h := filled(t, batch(5, first...))
	is(t, h, 5, n+1, 0)
	for id := uint64(1); id <= n; id++ {
		add(t, h, batch(5, dispatched(id, 1, 9)), batch(5, finished(id, 1), armed(n+id, 9)))
	}
	if got := len(h.Timers()); got != n || len(h.Tasks()) != 0 || len(h.Batches()) != 2*n+1 {
		t.Errorf("%d timers, %d tasks, %d batches", got, len(h.Tasks()), len(h.Batches()))
	}
	is(t, h, 5, 2*n+1, 0)
}

// P2: histories of the same workflow have nothing in common.
func TestIndependent(t *testing.T) {
	a, b := history.New("w"), history.New("w")
	add(t, a, batch(5, started(), scheduled(1), armed(2, 9)), batch(5, signal("k")))
	is(t, b, 0, 1, 0)
	holds(t, b, nil)
	if b.Has("k") || len(b.Batches()) != 0 {
		t.Error("the other history was changed")
	}
	add(t, b, batch(1, started(), completed()))
	is(t, a, 5, 3, 0)
	holds(t, a, []history.Task{task(1, 0, false, 5)}, history.Timer{ID: 2, At: 9})
}

// nan is a value whose bits are no number.
var nan = api.Value{Kind: api.Float, F: math.NaN()}

// P12.2, P12.3: values of all kinds are kept as they are.
func TestValues(t *testing.T) {
	for _, v := range []api.Value{
		{}, integer(math.MinInt64), {Kind: api.Float, F: math.Copysign(0, -1)}, nan, text(""), text("\xFF"), list(),
		list(nan, list(list(text("deep")), integer(1))),
	} {
		b := batch(5, api.Event{Kind: api.Started, Name: "p", Value: v},
			api.Event{Kind: api.Scheduled, ID: 1, Name: "a", Value: v})
		h := filled(t, b)
		got := fmt.Sprintf("%+v, %+v", h.Tasks(), h.Batches())
		tasks := []history.Task{{ID: 1, Name: "a", Value: v, At: 5}}
		if want := fmt.Sprintf("%+v, %+v", tasks, []api.Batch{b}); got != want {
			t.Errorf("there is %s, want %s", got, want)
		}
	}
}
