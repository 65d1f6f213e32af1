package batch_test

import (
	"fmt"
	"math"
	"math/rand/v2"
	"slices"
	"strings"
	"testing"

	"clockwork/api"
	"clockwork/batch"
	"clockwork/event"
	"clockwork/value"
)

var negativeZero = math.Copysign(0, -1)

func integer(n int64) api.Value      { return api.Value{Kind: api.Int, N: n} }
func float(f float64) api.Value      { return api.Value{Kind: api.Float, F: f} }
func text(s string) api.Value        { return api.Value{Kind: api.Text, S: s} }
func list(vs ...api.Value) api.Value { return api.Value{Kind: api.List, L: vs} }
func newRandom() *rand.Rand          { return rand.New(rand.NewPCG(38, 13)) }

func fired(id uint64) api.Event       { return api.Event{Kind: api.Fired, ID: id} }
func completed(v api.Value) api.Event { return api.Event{Kind: api.Completed, Value: v} }
func flow(es ...api.Event) api.Batch  { return of("w", 3, es...) }

// nested returns v in n Lists.
func nested(n int, v api.Value) api.Value {
	for range n {
		v = list(v)
	}
	return v
}

// of returns a batch with all its fields.
func of(flow string, at uint64, es ...api.Event) api.Batch {
	return api.Batch{Flow: flow, At: at, Events: es}
}

// show prints a batch, also an invalid one.
func show(b api.Batch) string { return fmt.Sprintf("%.300s", fmt.Sprintf("%+v", b)) }

// kinds returns a valid event of each kind.
func kinds() []api.Event {
	v := list(integer(-5), list(text("a"), float(1.5)), api.Value{})
	return []api.Event{
		{Kind: api.Started, Name: "p", Value: v},
		{Kind: api.Dispatched, ID: 300, N: 2, At: 300},
		{Kind: api.Finished, ID: 1, N: 1, Value: v},
		{Kind: api.Broken, ID: 1, N: 1<<31 - 1, At: api.MaxTick, Text: "no"},
		{Kind: api.Fired, ID: math.MaxUint64},
		{Kind: api.Signal, Name: "s", Text: "k", Value: v},
		{Kind: api.Scheduled, ID: 1, Name: "a", Value: v},
		{Kind: api.Armed, ID: 2, At: 9},
		{Kind: api.Completed, Value: v},
		{Kind: api.Failed, Text: "; failed \"\""},
		{Kind: api.Panicked, Text: "\x00\xFF"},
	}
}

// badEvents are not valid, each of them because of one field.
func badEvents() []api.Event {
	es := []api.Event{{}, {Kind: -1}, {Kind: 12}, {Kind: math.MaxInt}, {Kind: math.MinInt}, {Kind: 256 + api.Fired, ID: 5}}
	long := strings.Repeat("n", 1001)
	return append(es, fired(0), api.Event{Kind: api.Fired, ID: 5, N: 1}, api.Event{Kind: api.Fired, ID: 5, Name: "a"},
		api.Event{Kind: api.Signal}, api.Event{Kind: api.Signal, Name: long}, api.Event{Kind: api.Signal, Name: "s", Text: long},
		api.Event{Kind: api.Finished, ID: 1, N: 1 << 31}, api.Event{Kind: api.Finished, ID: 1, N: 0},
		api.Event{Kind: api.Armed, ID: 1, At: 1 << 63}, api.Event{Kind: api.Failed, Value: list()},
		completed(api.Value{Kind: 5}), completed(api.Value{N: 1}), completed(api.Value{F: negativeZero}),
		completed(nested(9, integer(1))), completed(nested(50, integer(1))), completed(list(api.Value{Kind: -1})))
}

// What the fields of valid batches may have; and what they may not.
var (
	goodFlows = []string{
		"w", "v", "ww", "\x00", "\xFF\xFE", "é", "; ", "\"", strings.Repeat("w", 127), strings.Repeat("w", 128),
		strings.Repeat("w", 999), strings.Repeat("w", 1000), strings.Repeat("\xFF", 1000), strings.Repeat("é", 500),
	}
	badFlows = []string{"", strings.Repeat("w", 1001), strings.Repeat("\x00", 1001), strings.Repeat("é", 501), strings.Repeat("w", 100000)}
	goodAts  = []uint64{0, 1, 3, 127, 128, 300, 1 << 31, 1 << 32, 1<<63 - 2, api.MaxTick}
	badAts   = []uint64{1 << 63, 1<<63 + 1, 1<<63 + 3, math.MaxUint64}
)

// one returns any of xs.
func one[T any](r *rand.Rand, xs []T) T { return xs[r.IntN(len(xs))] }

// valid returns batches, each field of which is once all that it may be.
func valid() []api.Batch {
	bs := []api.Batch{flow(kinds()...), flow(completed(float(math.NaN()))), flow(completed(nested(8, integer(1))))}
	bs = append(bs, flow(completed(float(negativeZero))), flow(completed(nested(7, list()))), flow(slices.Repeat(kinds(), 30)...))
	bs = append(bs, flow(slices.Repeat([]api.Event{fired(5)}, 127)...), flow(slices.Repeat([]api.Event{fired(5)}, 128)...))
	for _, e := range kinds() {
		bs = append(bs, flow(e), flow(e, e), flow(e, fired(5)), flow(fired(5), e))
	}
	for _, name := range goodFlows {
		bs = append(bs, of(name, 3, fired(5)))
	}
	for _, at := range goodAts {
		bs = append(bs, of("w", at, fired(5)))
	}
	r := newRandom()
	for range 500 {
		b := of(one(r, goodFlows), one(r, goodAts))
		for range 1 + r.IntN(6) {
			b.Events = append(b.Events, one(r, kinds()))
		}
		bs = append(bs, b)
	}
	return bs
}

// invalid returns batches that are not valid, each of them because of one field.
func invalid() []api.Batch {
	bs := []api.Batch{{}, of("w", 3), {Flow: "w", At: 3, Events: []api.Event{}}}
	for _, name := range badFlows {
		bs = append(bs, of(name, 3, fired(5)))
	}
	for _, at := range badAts {
		bs = append(bs, of("w", at, fired(5)))
	}
	for _, e := range badEvents() {
		bs = append(bs, flow(e), flow(fired(5), e), flow(e, fired(5)), flow(append(kinds(), e)...))
	}
	return bs
}

// changed returns b with something else, right or not, in one place.
func changed(r *rand.Rand, b api.Batch) api.Batch {
	b = slowClone(b)
	i := r.IntN(len(b.Events) + 1)
	e := one(r, append(kinds(), badEvents()...))
	switch k := r.IntN(6); {
	case k == 0:
		b.Flow = one(r, append(badFlows, goodFlows...))
	case k == 1:
		b.At = one(r, append(badAts, goodAts...))
	case k == 2 || i == len(b.Events):
		b.Events = slices.Insert(b.Events, i, e)
	case k == 3:
		b.Events = slices.Delete(b.Events, i, i+1)
	case k == 4:
		b.Events[i] = e
	default:
		b.Events[0], b.Events[i] = b.Events[i], b.Events[0]
	}
	return b
}

// slowValid goes through the rules of the chapter one by one.
func slowValid(b api.Batch) bool {
	if len(b.Flow) < 1 || len(b.Flow) > 1000 || b.At > 9223372036854775807 || len(b.Events) == 0 {
		return false
	}
	for _, e := range b.Events {
		if !event.Valid(e) {
			return false
		}
	}
	return true
}

// slowSame compares field by field.
func slowSame(a, b api.Batch) bool {
	if len(a.Events) != len(b.Events) {
		return false
	}
	for i := range a.Events {
		if !event.Same(a.Events[i], b.Events[i]) {
			return false
		}
	}
	return a.At == b.At && a.Flow == b.Flow
}

// slowClone returns a copy that shares no memory.
func slowClone(b api.Batch) api.Batch {
	var es []api.Event
	for _, e := range b.Events {
		e.Value = value.Clone(e.Value)
		es = append(es, e)
	}
	return api.Batch{Flow: b.Flow, At: b.At, Events: es}
}

// P13.1: batches that are valid.
func TestValid(t *testing.T) {
	for _, b := range valid() {
		if !batch.Valid(b) {
			t.Errorf("%s is not valid", show(b))
		}
	}
}

// P13.1: batches that are not valid.
func TestInvalid(t *testing.T) {
	for _, b := range invalid() {
		if batch.Valid(b) {
			t.Errorf("%s is valid", show(b))
		}
	}
}

// P13.1: the definition, for batches that are changed in one to three places. What comes from outside may be at any
// place of a batch, or nowhere.
func TestValidDefinition(t *testing.T) {
	r := newRandom()
	seen := map[bool]int{}
	for _, b := range valid() {
		for range 3 {
			b = changed(r, b)
			got, want := batch.Valid(b), slowValid(b)
			if got != want {
				t.Errorf("Valid of %s: %v", show(b), got)
			}
			seen[want]++
		}
	}
	if seen[true] < 100 || seen[false] < 100 {
		t.Errorf("%d valid and %d other batches", seen[true], seen[false])
	}
}

// P13.1: each field counts, also of batches that are not valid, and so does the order of the events.
func TestSameKnown(t *testing.T) {
	b := flow(fired(5), completed(list(integer(1))))
	for _, other := range []api.Batch{
		{}, of("", 3, b.Events...), of("v", 3, b.Events...), of("w\x00", 3, b.Events...), of("W", 3, b.Events...),
		of("w", 4, b.Events...), of("w", 3+1<<32, b.Events...), of("w", 3+1<<63, b.Events...),
		flow(), flow(fired(5)), flow(completed(list(integer(1)))), flow(completed(list(integer(1))), fired(5)),
		flow(fired(5), completed(list(integer(1))), fired(5)), flow(fired(6), b.Events[1]), flow(b.Events[1], b.Events[1]),
		flow(fired(5), completed(list(integer(2)))), flow(fired(5), completed(list())), flow(fired(5), completed(list(float(1)))),
		flow(fired(5), api.Event{Kind: 12}), flow(fired(5), api.Event{Kind: api.Completed, N: 1, Value: list(integer(1))}),
	} {
		if batch.Same(b, other) || batch.Same(other, b) {
			t.Errorf("%s and %s are the same", show(b), show(other))
		}
		if !batch.Same(other, slowClone(other)) {
			t.Errorf("%s is another one", show(other))
		}
	}
	empty := api.Batch{Flow: "w", At: 3, Events: []api.Event{}}
	if !batch.Same(empty, flow()) || !batch.Same(flow(), empty) {
		t.Error("an empty slice that is not nil is another one")
	}
	nan, zero := flow(completed(float(math.NaN()))), flow(completed(float(0)))
	if !batch.Same(nan, flow(completed(float(math.Float64frombits(math.MaxUint64))))) {
		t.Error("NaNs are different ones")
	}
	if batch.Same(zero, flow(completed(float(negativeZero)))) {
		t.Error("0 and -0 are the same")
	}
}

// P13.1: the definition of Same, for valid and invalid batches.
func TestSameDefinition(t *testing.T) {
	r := newRandom()
	bs := append(valid(), invalid()...)
	check := func(a, b api.Batch) {
		want := slowSame(a, b)
		if batch.Same(a, b) != want || batch.Same(b, a) != want {
			t.Errorf("Same of %s and %s is not %v", show(a), show(b), want)
		}
	}
	for _, b := range bs {
		check(b, slowClone(b))
		check(b, changed(r, b))
		check(changed(r, b), changed(r, b))
		check(b, one(r, bs))
	}
}

// P13.1: a clone is the same, for valid and invalid batches.
func TestClone(t *testing.T) {
	for _, b := range append(valid(), invalid()...) {
		if c := batch.Clone(b); !slowSame(c, b) || !batch.Same(c, b) {
			t.Errorf("Clone of %s: %s", show(b), show(c))
		}
	}
}

// P13.1: the commands of batches, in order; an event of no kind does not come from outside.
func TestCommands(t *testing.T) {
	all := kinds()
	odd := api.Event{Kind: 12, ID: 7, Value: list(integer(1))}
	for _, c := range []struct {
		b    api.Batch
		want []api.Event
	}{
		{api.Batch{}, nil},
		{flow(), nil},
		{flow(all...), all[6:]},
		{flow(all[:6]...), nil},
		{flow(all[6:]...), all[6:]},
		{flow(all[0], all[7], all[6]), []api.Event{all[7], all[6]}},
		{flow(all[7], all[0], all[6], all[5], all[7]), []api.Event{all[7], all[6], all[7]}},
		{of("", 1<<63, all[0], all[10]), all[10:]},
		{flow(odd, all[0], api.Event{}, api.Event{Kind: -3}), []api.Event{odd, {}, {Kind: -3}}},
		{flow(api.Event{Kind: api.Signal}, api.Event{Kind: api.Armed}), []api.Event{{Kind: api.Armed}}},
		{flow(api.Event{Kind: math.MinInt}, api.Event{Kind: math.MaxInt}), []api.Event{{Kind: math.MinInt}, {Kind: math.MaxInt}}},
	} {
		if got := batch.Commands(c.b); !slices.EqualFunc(got, c.want, event.Same) {
			t.Errorf("Commands of %s: %+v, want %+v", show(c.b), got, c.want)
		}
	}
}

// P13.1: the definition of Commands.
func TestCommandsDefinition(t *testing.T) {
	for _, b := range append(valid(), invalid()...) {
		var want []api.Event
		for _, e := range b.Events {
			if e.Kind < 1 || e.Kind > 6 {
				want = append(want, e)
			}
		}
		if got := batch.Commands(b); !slices.EqualFunc(got, want, event.Same) {
			t.Errorf("Commands of %s: %+v, want %+v", show(b), got, want)
		}
	}
}
