package index_test

import (
	"fmt"
	"math"
	"slices"
	"strings"
	"testing"

	"clockwork/api"
	"clockwork/batch"
	"clockwork/history"
	"clockwork/index"
)

func integer(n int64) api.Value      { return api.Value{Kind: api.Int, N: n} }
func text(s string) api.Value        { return api.Value{Kind: api.Text, S: s} }
func list(vs ...api.Value) api.Value { return api.Value{Kind: api.List, L: vs} }

func started() api.Event { return api.Event{Kind: api.Started, Name: "p", Value: integer(7)} }

func dispatched(id uint64, n int, at uint64) api.Event {
	return api.Event{Kind: api.Dispatched, ID: id, N: n, At: at}
}

func finished(id uint64, n int) api.Event {
	return api.Event{Kind: api.Finished, ID: id, N: n, Value: text("done")}
}

func fired(id uint64) api.Event { return api.Event{Kind: api.Fired, ID: id} }

func signal(key string) api.Event {
	return api.Event{Kind: api.Signal, Name: "s", Text: key, Value: list(integer(1))}
}

func scheduled(id uint64) api.Event {
	return api.Event{Kind: api.Scheduled, ID: id, Name: "a", Value: integer(int64(id))}
}

func armed(id, at uint64) api.Event { return api.Event{Kind: api.Armed, ID: id, At: at} }
func completed() api.Event          { return api.Event{Kind: api.Completed, Value: text("end")} }
func failed() api.Event             { return api.Event{Kind: api.Failed, Text: "failed"} }
func panicked() api.Event           { return api.Event{Kind: api.Panicked, Text: "panicked"} }

// of returns a batch with all its fields.
func of(flow string, at uint64, events ...api.Event) api.Batch {
	return api.Batch{Flow: flow, At: at, Events: events}
}

// show prints everything that an index tells.
func show(x *index.Index) string {
	s := fmt.Sprintf("names %q, open %q, clock %d, records %x", x.Names(), x.Open(), x.Clock(), x.Records())
	for _, name := range x.Names() {
		s += "\n" + showHistory(x.Flow(name))
	}
	return s
}

// showHistory prints everything that a history tells.
func showHistory(h *history.History) string {
	has := []bool{}
	for _, key := range keys {
		has = append(has, h.Has(key))
	}
	return fmt.Sprintf("flow %q, closed %d, at %d, next %d, keys %v, tasks %+v, timers %+v, batches %+v",
		h.Flow(), h.Closed(), h.At(), h.Next(), has, h.Tasks(), h.Timers(), h.Batches())
}

// keys are those of signals in the tests.
var keys = []string{"", "k", "l", "m"}

// add fails the test unless the batches fit in the index, one after the other.
func add(t *testing.T, x *index.Index, batches ...api.Batch) {
	t.Helper()
	for _, b := range batches {
		if code := x.Fits(b); code != api.OK {
			t.Fatalf("Fits of %.300s: %v", fmt.Sprintf("%+v", b), code)
		}
		if code := x.Add(b); code != api.OK {
			t.Fatalf("Add of %.300s: %v", fmt.Sprintf("%+v", b), code)
		}
	}
}

// filled returns an index with some batches.
func filled(t *testing.T, batches ...api.Batch) *index.Index {
	t.Helper()
	x := index.New()
	add(t, x, batches...)
	return x
}

// refuses fails the test unless none of the batches fits, each because of the code, and the index stays the same.
func refuses(t *testing.T, x *index.Index, want api.Code, batches ...api.Batch) {
	t.Helper()
	before := show(x)
	for _, b := range batches {
		had := x.Flow(b.Flow)
		if code := x.Fits(b); code != want {
			t.Errorf("Fits of %.300s: %v, want %v", fmt.Sprintf("%+v", b), code, want)
		}
		if code := x.Add(b); code != want {
			t.Errorf("Add of %.300s: %v, want %v", fmt.Sprintf("%+v", b), code, want)
		}
		if x.Flow(b.Flow) != had {
			t.Errorf("the history of %.50q is another one", b.Flow)
		}
	}
	if after := show(x); after != before {
		t.Errorf("the index was changed: %.1000s, want %.1000s", after, before)
	}
}

// tells fails the test unless the index has these workflows, of which these are open, and this clock.
func tells(t *testing.T, x *index.Index, names, open []string, clock uint64) {
	t.Helper()
	if got := x.Names(); !slices.Equal(got, names) {
		t.Errorf("the names are %.300q, want %.300q", got, names)
	}
	if got := x.Open(); !slices.Equal(got, open) {
		t.Errorf("%.300q are open, want %.300q", got, open)
	}
	if got := x.Clock(); got != clock {
		t.Errorf("the clock is %d, want %d", got, clock)
	}
}

// busy returns an index at the tick 9 with three workflows: b and a go on, and c is closed.
func busy(t *testing.T) *index.Index {
	t.Helper()
	return filled(t,
		of("b", 5, started(), scheduled(1), armed(2, 9)),
		of("c", 5, started()),
		of("a", 6, started(), armed(1, 7)),
		of("b", 6, dispatched(1, 1, 20)),
		of("c", 7, signal("k"), completed()),
		of("a", 7, fired(1)),
		of("a", 9, signal("k")),
	)
}

// P14.1, P14.2: an index without histories.
func TestNew(t *testing.T) {
	x := index.New()
	tells(t, x, nil, nil, 0)
	if len(x.Records()) != 0 {
		t.Errorf("there are the records %x", x.Records())
	}
	for _, name := range []string{"", "w", "\x00", strings.Repeat("w", 1001)} {
		if x.Flow(name) != nil {
			t.Errorf("%.20q has a history", name)
		}
	}
}

// The chapter's functions: what is said of a nil Index.
func TestNil(t *testing.T) {
	var x *index.Index
	for _, b := range []api.Batch{{}, of("w", 1, started()), of("w", 1), of("", 1<<63, failed())} {
		if fits, code := x.Fits(b), x.Add(b); fits != api.ErrNil || code != api.ErrNil {
			t.Errorf("Fits of %+v: %v, Add: %v", b, fits, code)
		}
	}
	tells(t, x, nil, nil, 0)
	if x.Flow("w") != nil || x.Flow("") != nil || len(x.Records()) != 0 {
		t.Errorf("Flow %v and %v, Records %x", x.Flow("w"), x.Flow(""), x.Records())
	}
}

// P14.1, P14.2: the chapter's example.
func TestFirst(t *testing.T) {
	x := filled(t, of("w", 5, started(), scheduled(1)))
	tells(t, x, []string{"w"}, []string{"w"}, 5)
	h := x.Flow("w")
	if len(h.Batches()) != 1 || len(h.Tasks()) != 1 || h.Flow() != "w" || h.At() != 5 {
		t.Errorf("the history is %s", showHistory(h))
	}
}

// P14.2: names are in the order of the first batches of the workflows, whatever comes behind these.
func TestOrder(t *testing.T) {
	x := busy(t)
	tells(t, x, []string{"b", "c", "a"}, []string{"b", "a"}, 9)
	add(t, x, of("d", 9, started(), failed()), of("B", 9, started()), of("b", 9, fired(2)), of("\x00", 9, started()))
	tells(t, x, []string{"b", "c", "a", "d", "B", "\x00"}, []string{"b", "a", "B", "\x00"}, 9)
	add(t, x, of("b", 9, finished(1, 1), panicked()), of("\x00", 10, signal(""), failed()))
	tells(t, x, []string{"b", "c", "a", "d", "B", "\x00"}, []string{"a", "B"}, 10)
	add(t, x, of("a", 11, signal("l"), completed()), of("B", 11, signal(""), completed()))
	tells(t, x, []string{"b", "c", "a", "d", "B", "\x00"}, nil, 11)
}

// P14.2: each workflow has its own history, and those without a batch have none.
func TestFlow(t *testing.T) {
	x := busy(t)
	for name, want := range map[string]string{
		"a": "0 9 2 true 0 0 3", "b": "0 6 3 false 1 1 2", "c": "9 7 1 true 0 0 2",
	} {
		h := x.Flow(name)
		if h == nil || h.Flow() != name {
			t.Fatalf("the history of %q is %s", name, showHistory(h))
		}
		got := fmt.Sprint(h.Closed(), h.At(), h.Next(), h.Has("k"), len(h.Tasks()), len(h.Timers()), len(h.Batches()))
		if got != want {
			t.Errorf("the history of %q: %s, want %s", name, got, want)
		}
	}
	for _, name := range []string{"", "A", "d", "ab", "aa", "p", "k", "\x00", strings.Repeat("a", 1001)} {
		if x.Flow(name) != nil {
			t.Errorf("%.20q has a history", name)
		}
	}
}

// P14.2: the history that Flow returns is the index's own, so that it goes on with the index.
func TestFlowGoesOn(t *testing.T) {
	x := filled(t, of("w", 5, started()))
	h := x.Flow("w")
	add(t, x, of("v", 6, started()), of("w", 7, signal("k"), failed()))
	if x.Flow("w") != h || h.At() != 7 || !h.Has("k") || h.Closed() != api.Failed {
		t.Errorf("the history is %s", showHistory(h))
	}
}

// P14.2: the clock is the greatest tick of all batches, whose workflows it does not matter to.
func TestClock(t *testing.T) {
	x := index.New()
	for _, c := range []struct {
		b     api.Batch
		clock uint64
	}{
		{of("a", 0, started()), 0},
		{of("b", 3, started(), completed()), 3},
		{of("a", 3, signal("")), 3},
		{of("c", 4, started()), 4},
		{of("a", 4, signal(""), armed(1, 1000)), 4},
		{of("a", 1<<32, signal("")), 1 << 32},
		{of("c", api.MaxTick, signal("")), api.MaxTick},
		{of("d", api.MaxTick, started(), failed()), api.MaxTick},
	} {
		refuses(t, x, api.ErrRange, of(c.b.Flow, c.b.At))
		add(t, x, c.b)
		if x.Clock() != c.clock {
			t.Errorf("behind %+v, the clock is %d", c.b, x.Clock())
		}
	}
	refuses(t, x, api.ErrOrder, of("a", api.MaxTick-1, signal("")), of("e", api.MaxTick-1, started()), of("e", 0, started()))
}

// invalid returns batches that are not valid, each of them because of one thing.
func invalid(flow string, at uint64) []api.Batch {
	long := strings.Repeat("w", 1001)
	batches := []api.Batch{
		of("", at, started()), of(long, at, started()), of(strings.Repeat("é", 501), at, signal("")),
		of(flow, at), {Flow: flow, At: at, Events: []api.Event{}},
		of(flow, 1<<63, started()), of(flow, 1<<63, signal("")), of(flow, 1<<63+at, signal("")), of(flow, math.MaxUint64, started()),
	}
	for _, e := range []api.Event{
		{}, {Kind: -1}, {Kind: 12}, {Kind: math.MaxInt}, {Kind: api.Started}, {Kind: api.Started, Name: long},
		{Kind: api.Started, Name: "p", ID: 1}, {Kind: api.Started, Name: "p", Value: api.Value{Kind: 5}},
		{Kind: api.Signal, Name: "s", Text: long}, {Kind: api.Signal, Name: "s", N: 1}, fired(0), dispatched(1, 0, 9),
		armed(1, 1<<63), {Kind: api.Failed, Text: long},
	} {
		batches = append(batches, of(flow, at, e), of(flow, at, started(), e), of(flow, at, e, failed()),
			of(flow, at, signal(""), scheduled(1), e))
	}
	return batches
}

// P14.1: whether a batch is valid is asked first, also for one of the past or of a closed workflow.
func TestRange(t *testing.T) {
	for _, x := range []*index.Index{index.New(), filled(t, of("a", 0, started())), busy(t)} {
		for _, flow := range []string{"a", "b", "c", "d"} {
			for _, at := range []uint64{0, 5, 8, 9, 10, api.MaxTick} {
				refuses(t, x, api.ErrRange, invalid(flow, at)...)
			}
		}
	}
}

// P14.1: the names of workflows may be any of 1 to 1000 bytes.
func TestNames(t *testing.T) {
	names := []string{"w", "W", "ww", " ", "\x00", "\x00\x00", "\xFF\xFE", "é", strings.Repeat("w", 999), strings.Repeat("w", 1000)}
	x := index.New()
	for i, name := range names {
		add(t, x, of(name, uint64(i), started()))
	}
	tells(t, x, names, names, uint64(len(names)-1))
	for i, name := range names {
		if h := x.Flow(name); h.Flow() != name || h.At() != uint64(i) || len(h.Batches()) != 1 {
			t.Errorf("the history of %.20q is %.300s", name, showHistory(h))
		}
	}
}

// P14.1: a batch with a tick less than the clock does not fit, of whatever workflow it is; this is asked before
// anything of its history.
func TestPast(t *testing.T) {
	x := busy(t)
	for _, at := range []uint64{0, 5, 6, 7, 8} {
		for _, flow := range []string{"a", "b", "c", "d"} {
			refuses(t, x, api.ErrOrder, of(flow, at, started()), of(flow, at, signal("")), of(flow, at, signal("l"), failed()),
				of(flow, at, scheduled(3)), of(flow, at, completed()))
		}
		refuses(t, x, api.ErrOrder, of("b", at, finished(1, 1)))
	}
	add(t, x, of("b", 9, finished(1, 1)), of("d", 9, started()))
	refuses(t, x, api.ErrClosed, of("c", 9, signal("")))
	refuses(t, x, api.ErrOrder, of("c", 8, signal("")))
}

// P14.1: what a history says of a batch.
func TestHistory(t *testing.T) {
	refuses(t, index.New(), api.ErrOrder, of("w", 0, signal("")), of("w", 5, scheduled(1)), of("w", 5, fired(1)),
		of("w", 5, started(), started()), of("w", 5, started(), scheduled(2)), of("w", 5, started(), armed(1, 4)))
	x := busy(t)
	for _, at := range []uint64{9, 10, api.MaxTick} {
		refuses(t, x, api.ErrOrder,
			of("a", at, started()), of("a", at, signal("k")), of("a", at, fired(1)), of("a", at, signal("l"), scheduled(1)),
			of("b", at, dispatched(1, 1, at)), of("b", at, finished(1, 2)), of("b", at, fired(1)), of("b", at, failed()),
			of("d", at, signal("")), of("d", at, completed()), of("d", at, started(), scheduled(3)), of("d", at, fired(2)))
		refuses(t, x, api.ErrClosed,
			of("c", at, started()), of("c", at, signal("")), of("c", at, signal("l"), failed()), of("c", at, completed()),
			of("c", at, fired(9)), of("c", at, finished(1, 1)))
	}
	for _, b := range []api.Batch{
		of("a", 9, signal("l"), scheduled(2)), of("b", 9, signal("k"), scheduled(3)), of("b", 9, fired(2), completed()),
		of("b", 10, finished(1, 1)), of("d", 9, started(), scheduled(1)), of("d", api.MaxTick, started(), panicked()),
	} {
		add(t, busy(t), b)
	}
}

// P14.1: what has happened to a workflow does not matter to another one.
func TestApart(t *testing.T) {
	x := filled(t, of("a", 1, started(), scheduled(1), armed(2, 2)), of("b", 1, started(), armed(1, 2), scheduled(2)))
	add(t, x, of("a", 2, signal("k")), of("b", 2, signal("k")), of("a", 2, dispatched(1, 1, 3)), of("b", 2, dispatched(2, 1, 3)))
	refuses(t, x, api.ErrOrder, of("a", 2, finished(2, 1)), of("b", 2, finished(1, 1)), of("a", 2, fired(1)), of("b", 2, fired(2)))
	add(t, x, of("b", 2, fired(1), failed()), of("a", 2, fired(2), scheduled(3)), of("a", 2, finished(1, 1)))
	refuses(t, x, api.ErrClosed, of("b", 2, finished(2, 1)))
	tells(t, x, []string{"a", "b"}, []string{"a"}, 2)
	if a := x.Flow("a").Tasks(); len(a) != 1 || a[0].ID != 3 {
		t.Errorf("the tasks of a are %+v", a)
	}
}

// P2: indexes have nothing in common.
func TestIndependent(t *testing.T) {
	x, y := index.New(), index.New()
	add(t, x, of("w", 5, started()), of("w", 5, signal("k")))
	tells(t, y, nil, nil, 0)
	if y.Flow("w") != nil || len(y.Records()) != 0 {
		t.Error("the other index was changed")
	}
	add(t, y, of("v", 2, started()), of("w", 3, started(), failed()))
	tells(t, x, []string{"w"}, []string{"w"}, 5)
	z, _, _ := index.Build(x.Records()...)
	before := show(z)
	add(t, x, of("w", 6, signal("l")), of("u", 6, started()))
	if show(z) != before || !x.Flow("w").Has("l") {
		t.Errorf("the index of the records was changed: %s", show(z))
	}
}

// P14.1, P14.3: many workflows and many batches, in indexes and in records.
func TestMany(t *testing.T) {
	const n = 5000
	x := index.New()
	var names []string
	for i := range n {
		names = append(names, fmt.Sprint("w", (i*7919)%n))
		if code := x.Add(of(names[i], 1, started())); code != api.OK {
			t.Fatalf("Add: %v", code)
		}
	}
	for i := range 4 * n {
		if code := x.Add(of("w1", uint64(i+1), signal(fmt.Sprint(i)))); code != api.OK {
			t.Fatalf("Add: %v", code)
		}
	}
	records := x.Records()
	y, count, code := index.Build(records...)
	if len(records) != 5*n || count != 5*n || code != api.OK {
		t.Fatalf("%d records, Build: %d, %v", len(records), count, code)
	}
	for _, z := range []*index.Index{x, y} {
		tells(t, z, names, names, 4*n)
	}
	if b, ok := batch.Parse(records[5*n-1]); !ok || b.At != 4*n || len(y.Flow("w1").Batches()) != 4*n+1 {
		t.Errorf("the last record is of %+v", b)
	}
}
