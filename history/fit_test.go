package history_test

import (
	"math"
	"slices"
	"strings"
	"testing"

	"clockwork/api"
	"clockwork/history"
)

// busy returns a history of the workflow w at the tick 10. The task 1 is flying in its second attempt, whose
// deadline is 20; the task 2 waits until 12 for its second attempt, and the task 3 for its first one. The timer 4 is
// due, and the timer 5 will be at 11. There was a signal with the key k.
func busy(t *testing.T) *history.History {
	t.Helper()
	return filled(t,
		batch(5, started(), scheduled(1), scheduled(2)),
		batch(5, dispatched(1, 1, 9)),
		batch(5, dispatched(2, 1, 9)),
		batch(6, broken(1, 1, 7)),
		batch(7, broken(2, 1, 12)),
		batch(8, dispatched(1, 2, 20)),
		batch(10, signal("k"), scheduled(3), armed(4, 10), armed(5, 11)),
	)
}

// fit fails the test unless each of the batches fits in a history that is made for it.
func fit(t *testing.T, h func(t *testing.T) *history.History, batches ...api.Batch) {
	t.Helper()
	for _, b := range batches {
		add(t, h(t), b)
	}
}

// invalid returns events that are not valid: those of other kinds, and those of each kind because of one field.
func invalid() []api.Event {
	events := []api.Event{{}, {Kind: -1}, {Kind: 12, ID: 1}, {Kind: math.MaxInt}, {Kind: 1 << 32}}
	for _, e := range append(outside(), append(closing(), scheduled(1), armed(1, 9))...) {
		for _, spoil := range []func(e *api.Event){
			func(e *api.Event) { e.ID = 1 - min(e.ID, 1) },
			func(e *api.Event) { e.N = -1 },
			func(e *api.Event) { e.N = 1 << 31 },
			func(e *api.Event) { e.At = 1 << 63 },
			func(e *api.Event) { e.Name = strings.Repeat("n", 1001) },
			func(e *api.Event) { e.Text = strings.Repeat("t", 1001) },
			func(e *api.Event) { e.Value.Kind = 5 },
			func(e *api.Event) { e.Value.F = math.NaN() },
		} {
			bad := e
			spoil(&bad)
			events = append(events, bad)
		}
	}
	return events
}

// some returns histories without batches, that go on, and that have ended.
func some(t *testing.T) []*history.History {
	t.Helper()
	return []*history.History{empty(t), filled(t, batch(5, started())), busy(t), filled(t, batch(5, started(), failed()))}
}

func empty(*testing.T) *history.History { return history.New("w") }

// of returns a batch of any workflow.
func of(flow string, at uint64, events ...api.Event) api.Batch {
	return api.Batch{Flow: flow, At: at, Events: events}
}

// P12.1: what is asked first: the tick, the number of the events, and whether they are valid.
func TestRange(t *testing.T) {
	for _, h := range some(t) {
		for _, flow := range []string{"w", "", "x"} {
			for _, at := range []uint64{0, 5, 10, api.MaxTick, 1 << 63, math.MaxUint64} {
				refuses(t, h, api.ErrRange, of(flow, at), of(flow, at, []api.Event{}...))
			}
			for _, at := range []uint64{1 << 63, 1<<63 + 5, math.MaxUint64 - 1, math.MaxUint64} {
				for _, e := range append(outside(), scheduled(1), armed(1, 9), failed()) {
					refuses(t, h, api.ErrRange, of(flow, at, e))
				}
			}
		}
	}
}

// P12.1: events that are not valid, at each place of a batch.
func TestInvalid(t *testing.T) {
	for _, h := range some(t) {
		for _, e := range invalid() {
			for _, events := range [][]api.Event{
				{e}, {e, scheduled(1)}, {failed(), e}, {started(), e}, {started(), scheduled(1), e},
				{started(), failed(), e}, {signal(""), e}, {signal(""), scheduled(6), e, scheduled(7)},
			} {
				refuses(t, h, api.ErrRange, of("w", 10, events...), of("x", 10, events...))
			}
		}
	}
}

// P12.1: the name of the workflow is asked before anything of its history.
func TestName(t *testing.T) {
	for _, h := range some(t) {
		for _, flow := range []string{"", "W", "x", "ww", "w\x00", "\xFF", strings.Repeat("w", 1001)} {
			for _, e := range append(outside(), scheduled(1), failed()) {
				refuses(t, h, api.ErrName, of(flow, 10, e), of(flow, 0, e, e))
			}
		}
	}
}

// P12.1: a history without batches begins with a Started, and has no other one.
func TestBegins(t *testing.T) {
	fit(t, empty, batch(0, started()), batch(api.MaxTick, started()), batch(7, started(), completed()))
	for _, e := range append(outside()[1:], append(closing(), scheduled(1), armed(1, 9))...) {
		refuses(t, empty(t), api.ErrOrder,
			batch(0, e), batch(9, e), batch(9, e, scheduled(1)), batch(9, e, failed()), batch(9, e, started()))
	}
	refuses(t, filled(t, batch(5, started())), api.ErrOrder, batch(5, started()), batch(6, started()))
	refuses(t, busy(t), api.ErrOrder,
		batch(10, started()), batch(11, started(), scheduled(6)), batch(10, started(), failed()),
		batch(10, api.Event{Kind: api.Started, Name: "q"}))
}

// P12.1: the first event of a batch is from outside, and all others are commands.
func TestOutside(t *testing.T) {
	for _, e := range append(closing(), scheduled(6), armed(6, 10)) {
		refuses(t, busy(t), api.ErrOrder, batch(10, e), batch(10, e, scheduled(6)), batch(10, e, signal("")))
	}
	for _, e := range []api.Event{
		started(), signal(""), signal("l"), dispatched(3, 1, 10), finished(1, 2), broken(1, 2, 0), fired(4),
	} {
		for _, first := range []api.Event{signal(""), signal("l"), finished(1, 2), fired(4), e} {
			refuses(t, busy(t), api.ErrOrder,
				batch(10, first, e), batch(10, first, scheduled(6), e), batch(10, first, e, scheduled(6)))
		}
		refuses(t, empty(t), api.ErrOrder, batch(10, started(), e), batch(10, started(), scheduled(1), e))
	}
}

// P12.1: the tick of a batch is not less than that of the last one.
func TestTicks(t *testing.T) {
	fit(t, busy, batch(10, signal("")), batch(11, signal("")), batch(api.MaxTick, signal("")))
	h := busy(t)
	refuses(t, h, api.ErrOrder,
		batch(0, signal("")), batch(8, signal("")), batch(9, signal("")), batch(9, finished(1, 2)))
	add(t, h, batch(api.MaxTick, signal("")), batch(api.MaxTick, signal("l"), armed(6, api.MaxTick)))
	refuses(t, h, api.ErrOrder, batch(api.MaxTick-1, signal("")), batch(10, signal("")))
	add(t, filled(t, batch(0, started())), batch(0, signal("")), batch(0, signal("")), batch(1, signal("")))
}

// P12.1: a Dispatched is the next attempt of a task that is not flying, at a tick that is not too early; its own tick is
// not in the past, and nothing is behind it.
func TestDispatched(t *testing.T) {
	fit(t, busy,
		batch(10, dispatched(3, 1, 10)), batch(10, dispatched(3, 1, 11)), batch(10, dispatched(3, 1, api.MaxTick)),
		batch(12, dispatched(2, 2, 12)), batch(13, dispatched(2, 2, 13)),
		batch(api.MaxTick, dispatched(2, 2, api.MaxTick)))
	for _, l := range [][]api.Batch{
		{batch(10, dispatched(4, 1, 15)), batch(11, dispatched(6, 1, 15)), batch(11, dispatched(math.MaxUint64, 1, 15))},
		{batch(10, dispatched(1, 1, 30)), batch(10, dispatched(1, 2, 30)), batch(10, dispatched(1, 3, 30))}, // flying
		{batch(20, dispatched(1, 3, 30)), batch(21, dispatched(1, 3, 30))},
		{batch(10, dispatched(3, 2, 11)), batch(10, dispatched(3, math.MaxInt32, 11))}, // another attempt
		{batch(12, dispatched(2, 1, 15)), batch(12, dispatched(2, 3, 15))},
		{batch(10, dispatched(2, 2, 15)), batch(11, dispatched(2, 2, 15)), batch(11, dispatched(2, 2, 12))}, // too early
		{batch(10, dispatched(3, 1, 0)), batch(10, dispatched(3, 1, 9)), batch(11, dispatched(3, 1, 10))},   // in the past
		{batch(10, dispatched(3, 1, 11), scheduled(6)), batch(10, dispatched(3, 1, 11), armed(6, 12))},
		{batch(10, dispatched(3, 1, 11), completed()), batch(10, dispatched(3, 1, 11), failed())},
	} {
		refuses(t, busy(t), api.ErrOrder, l...)
	}
}

// P12.1: a Finished needs the attempt that is flying; commands may be behind it.
func TestFinished(t *testing.T) {
	for _, at := range []uint64{10, 19, 20, 21, api.MaxTick} { // also behind the deadline
		fit(t, busy, batch(at, finished(1, 2)), batch(at, finished(1, 2), scheduled(6), armed(7, at), failed()))
	}
	for _, e := range []api.Event{
		finished(1, 1), finished(1, 3), finished(1, math.MaxInt32), finished(2, 1), finished(2, 2), finished(3, 1),
		finished(4, 1), finished(4, 2), finished(6, 1), finished(6, 2), finished(math.MaxUint64, 2),
	} {
		refuses(t, busy(t), api.ErrOrder, batch(10, e), batch(12, e), batch(12, e, scheduled(6)))
	}
}

// P12.1: a Broken needs the attempt that is flying; if it has a tick, this is not in the past, and nothing is behind it.
func TestBroken(t *testing.T) {
	for _, at := range []uint64{10, 19, 20, 21, api.MaxTick} {
		fit(t, busy, batch(at, broken(1, 2, at)), batch(at, broken(1, 2, api.MaxTick)), batch(at, broken(1, 2, 0)),
			batch(at, broken(1, 2, 0), scheduled(6), armed(7, at), panicked()))
		refuses(t, busy(t), api.ErrOrder, batch(at, broken(1, 2, 1)), batch(at, broken(1, 2, at-1)),
			batch(at, broken(1, 2, at), scheduled(6)), batch(at, broken(1, 2, at), armed(6, at)),
			batch(at, broken(1, 2, at), completed()))
	}
	for _, at := range []uint64{0, 12} {
		for _, e := range []api.Event{
			broken(1, 1, at), broken(1, 3, at), broken(1, math.MaxInt32, at), broken(2, 1, at), broken(2, 2, at),
			broken(3, 1, at), broken(4, 1, at), broken(4, 2, at), broken(6, 2, at), broken(math.MaxUint64, 2, at),
		} {
			refuses(t, busy(t), api.ErrOrder, batch(10, e), batch(12, e), batch(12, e, scheduled(6)))
		}
	}
}

// P12.1: a Broken with the At 0 has no tick, also if its batch is at the tick 0: the task is done.
func TestBrokenAtZero(t *testing.T) {
	h := filled(t, batch(0, started(), scheduled(1)), batch(0, dispatched(1, 1, 0)))
	add(t, h, batch(0, broken(1, 1, 0), scheduled(2)))
	holds(t, h, []history.Task{task(2, 0, false, 0)})
}

// P12.1: a Fired needs a timer that is due; commands may be behind it.
func TestFired(t *testing.T) {
	fit(t, busy,
		batch(10, fired(4)), batch(11, fired(4)), batch(11, fired(5)), batch(12, fired(5)), batch(api.MaxTick, fired(5)),
		batch(10, fired(4), armed(6, 10), scheduled(7), completed()))
	refuses(t, busy(t), api.ErrOrder, batch(10, fired(5)))
	for _, id := range []uint64{1, 2, 3, 6, 1<<32 + 4, math.MaxUint64} {
		refuses(t, busy(t), api.ErrOrder, batch(10, fired(id)), batch(12, fired(id)))
	}
}

// P12.1: the commands of all batches are numbered from 1 on, without gaps.
func TestNumbers(t *testing.T) {
	fit(t, busy, batch(10, signal(""), scheduled(6)), batch(10, signal(""), armed(6, 10)),
		batch(10, fired(4), armed(6, 10), armed(7, 12), scheduled(8)))
	for _, id := range []uint64{1, 3, 5, 7, 8, 1 << 32, 1<<32 + 6, math.MaxUint64} {
		for _, e := range []api.Event{scheduled(id), armed(id, 12)} {
			refuses(t, busy(t), api.ErrOrder,
				batch(10, signal(""), e), batch(10, finished(1, 2), e), batch(10, fired(4), e, completed()))
		}
	}
	for _, id := range []uint64{1, 5, 6, 8, 1<<32 + 7, math.MaxUint64} {
		for _, e := range []api.Event{scheduled(id), armed(id, 12)} {
			refuses(t, busy(t), api.ErrOrder,
				batch(10, signal(""), scheduled(6), e), batch(10, signal(""), armed(6, 12), e),
				batch(10, signal(""), armed(6, 12), e, completed()))
		}
	}
	for _, id := range []uint64{2, 3, math.MaxUint64} {
		refuses(t, empty(t), api.ErrOrder, batch(10, started(), scheduled(id)), batch(10, started(), armed(id, 12)))
	}
}

// P12.1: an Armed has a tick that is not less than that of the batch.
func TestArmed(t *testing.T) {
	fit(t, busy, batch(12, signal(""), armed(6, 12)), batch(12, signal(""), armed(6, api.MaxTick)))
	fit(t, empty, batch(0, started(), armed(1, 0)))
	refuses(t, busy(t), api.ErrOrder,
		batch(10, signal(""), armed(6, 0)), batch(10, signal(""), armed(6, 9)), batch(12, signal(""), armed(6, 11)),
		batch(10, signal(""), scheduled(6), armed(7, 9)), batch(10, signal(""), armed(6, 9), failed()))
}

// P12.1: nothing is behind an event that closes the workflow.
func TestClosing(t *testing.T) {
	for _, end := range closing() {
		fit(t, busy, batch(10, signal(""), end), batch(10, fired(4), scheduled(6), end),
			batch(10, finished(1, 2), end), batch(10, broken(1, 2, 0), end))
		refuses(t, busy(t), api.ErrOrder, batch(10, end), batch(10, end, end))
		for _, e := range append(closing(), scheduled(6), armed(6, 12), signal("")) {
			refuses(t, busy(t), api.ErrOrder, batch(10, signal(""), end, e), batch(10, fired(4), end, e))
		}
		for _, e := range append(closing(), scheduled(7), armed(7, 12), signal("")) {
			refuses(t, busy(t), api.ErrOrder, batch(10, signal(""), scheduled(6), end, e))
		}
	}
}

// P12.1: of the codes for several mistakes, the first one is returned.
func TestFirstCode(t *testing.T) {
	closed := filled(t, batch(5, started(), failed()))
	refuses(t, closed, api.ErrRange,
		of("x", 1<<63, signal("")), of("x", 0), batch(4), of("x", 4, scheduled(9), api.Event{}))
	refuses(t, closed, api.ErrName, of("x", 4, scheduled(9)))
	refuses(t, closed, api.ErrClosed, batch(4, scheduled(9)), batch(5, started()), batch(4, signal(""), started()))
	open := filled(t, batch(5, started()))
	refuses(t, open, api.ErrName, of("x", 4, scheduled(9)))
	refuses(t, open, api.ErrOrder, batch(4, scheduled(9)))
}

// P12.1: batches of which only a later event is not possible change nothing.
func TestRefusedWhole(t *testing.T) {
	for _, first := range []api.Event{signal("l"), finished(1, 2), broken(1, 2, 0), fired(4)} {
		h := busy(t)
		for _, rest := range [][]api.Event{
			{scheduled(7)}, {scheduled(6), scheduled(6)}, {armed(6, 10), armed(7, 9)}, {scheduled(6), failed(), failed()},
			{completed(), scheduled(6)},
		} {
			refuses(t, h, api.ErrOrder, batch(10, slices.Concat([]api.Event{first}, rest)...))
		}
		add(t, h, batch(10, first, scheduled(6), armed(7, 10)))
		is(t, h, 10, 8, 0)
	}
}
