package index_test

import (
	"fmt"
	"math/bits"
	"math/rand/v2"
	"slices"
	"testing"

	"clockwork/api"
	"clockwork/batch"
	"clockwork/history"
	"clockwork/index"
)

// model is an index as the chapter's words say it: all batches in the order in which they were added.
type model []api.Batch

// clock returns the greatest tick of all batches.
func (m model) clock() uint64 {
	clock := uint64(0)
	for _, b := range m {
		clock = max(clock, b.At)
	}
	return clock
}

// names returns the workflows in the order of their first batches.
func (m model) names() []string {
	var names []string
	for _, b := range m {
		if !slices.Contains(names, b.Flow) {
			names = append(names, b.Flow)
		}
	}
	return names
}

// flow returns the history of a workflow, which is a new one if there is none.
func (m model) flow(name string) *history.History {
	h := history.New(name)
	for _, b := range m {
		if b.Flow == name {
			h.Add(b)
		}
	}
	return h
}

// fits returns whether a batch may be added.
func (m model) fits(b api.Batch) api.Code {
	if !batch.Valid(b) {
		return api.ErrRange
	}
	if b.At < m.clock() {
		return api.ErrOrder
	}
	return m.flow(b.Flow).Fits(b)
}

// show prints everything that an index like the model tells.
func (m model) show() string {
	var open []string
	var records [][]byte
	histories := ""
	for _, name := range m.names() {
		h := m.flow(name)
		if h.Closed() == 0 {
			open = append(open, name)
		}
		histories += "\n" + showHistory(h)
	}
	for _, b := range m {
		record, _ := batch.Bytes(b)
		records = append(records, record)
	}
	return fmt.Sprintf("names %q, open %q, clock %d, records %x", m.names(), open, m.clock(), records) + histories
}

// one returns any of xs.
func one[T any](r *rand.Rand, xs ...T) T { return xs[r.IntN(len(xs))] }

// outsider returns an event from outside that is often possible in a history at a tick.
func outsider(r *rand.Rand, h *history.History, at uint64) api.Event {
	if len(h.Batches()) == 0 {
		return one(r, started(), started(), started(), signal(""))
	}
	if timers := h.Timers(); len(timers) > 0 && r.IntN(2) == 0 {
		return fired(one(r, timers...).ID)
	}
	if tasks := h.Tasks(); len(tasks) > 0 && r.IntN(3) > 0 {
		task := one(r, tasks...)
		if task.Flying {
			return one(r, finished(task.ID, task.N), api.Event{Kind: api.Broken, ID: task.ID, N: task.N, At: at + uint64(r.IntN(2))})
		}
		return dispatched(task.ID, task.N+1, at+uint64(r.IntN(3)))
	}
	return one(r, signal(""), signal(""), signal(one(r, keys...)), started())
}

// random returns a batch that often fits.
func (m model) random(r *rand.Rand) api.Batch {
	name := one(r, "w", "v", "u", "", "wv", "a", "b", "c")
	at := m.clock() + uint64(r.IntN(6)/4)
	if r.IntN(12) == 0 {
		at = max(at, 1) - 1
	}
	h := m.flow(name)
	b := of(name, at, outsider(r, h, at))
	next := h.Next()
	if kind := b.Events[0].Kind; kind != api.Dispatched && (kind != api.Broken || b.Events[0].At == 0) {
		for range r.IntN(4) {
			b.Events = append(b.Events, one(r, scheduled(next), armed(next, at+uint64(r.IntN(3)))))
			next += uint64(r.IntN(20)+18) / 19
		}
	}
	switch r.IntN(15) {
	case 0:
		b.Events = append(b.Events, one(r, completed(), failed(), panicked(), api.Event{}, signal("")))
	case 1:
		b.Events = b.Events[1:]
	case 2:
		b.At |= 1 << 63
	}
	return b
}

// P14.1 to P14.3: indexes to which random batches are added, compared with the model; and those of their records.
func TestModel(t *testing.T) {
	r := rand.New(rand.NewPCG(14, 41))
	seen := map[api.Code]int{}
	for range 80 {
		x, m := index.New(), model(nil)
		for range 10 + r.IntN(50) {
			b := m.random(r)
			want := m.fits(b)
			fits := x.Fits(b)
			code := x.Add(b)
			if fits != want || code != want {
				t.Fatalf("Fits of %+v: %v, Add: %v, want %v\nbehind %s", b, fits, code, want, m.show())
			}
			if seen[code]++; code == api.OK {
				m = append(m, b)
			}
			if got := show(x); got != m.show() {
				t.Fatalf("behind %+v, there is %s,\n    want %s", b, got, m.show())
			}
		}
		builds(t, x.Records(), m...)
		for range 8 {
			m = swapped(t, r, m)
		}
	}
	for _, code := range []api.Code{api.OK, api.ErrRange, api.ErrClosed, api.ErrOrder} {
		if seen[code] < 80 {
			t.Errorf("only %d times the code %v", seen[code], code)
		}
	}
}

// swapped returns a model in which two neighbors of different workflows with the same tick are swapped, if there are
// any at some place: the index of its batches has the same histories (P14.4).
func swapped(t *testing.T, r *rand.Rand, m model) model {
	t.Helper()
	if len(m) < 2 {
		return m
	}
	i := r.IntN(len(m) - 1)
	if m[i].At != m[i+1].At || m[i].Flow == m[i+1].Flow {
		return m
	}
	other := slices.Clone(m)
	other[i], other[i+1] = m[i+1], m[i]
	x, y := filled(t, m...), filled(t, other...)
	for _, name := range m.names() {
		if got, want := showHistory(y.Flow(name)), showHistory(x.Flow(name)); got != want {
			t.Errorf("with %+v in front of %+v: %s, want %s", m[i+1], m[i], got, want)
		}
	}
	if len(x.Names()) != len(y.Names()) || x.Clock() != y.Clock() || show(y) != other.show() {
		t.Errorf("with %+v in front of %+v: %s, want %s", m[i+1], m[i], show(y), other.show())
	}
	return other
}

// P14.4: batches of different workflows with the same tick, in each order in which those of each workflow are in their
// own one, lead to the same histories; only the order of the workflows is another one.
func TestOrderDoesNotMatter(t *testing.T) {
	a := []api.Batch{of("a", 5, started(), armed(1, 5)), of("a", 5, fired(1)), of("a", 5, signal("k"), failed())}
	b := []api.Batch{of("b", 5, started(), scheduled(1)), of("b", 5, dispatched(1, 1, 9)), of("b", 5, finished(1, 1))}
	want := filled(t, slices.Concat(a, b)...)
	for order := range uint(1 << 6) {
		if bits.OnesCount(order) != len(b) {
			continue
		}
		var batches []api.Batch
		left := [2][]api.Batch{a, b}
		for i := range 6 {
			l := &left[order>>i&1]
			batches, *l = append(batches, (*l)[0]), (*l)[1:]
		}
		x := filled(t, batches...)
		for _, name := range []string{"a", "b"} {
			if got, want := showHistory(x.Flow(name)), showHistory(want.Flow(name)); got != want {
				t.Errorf("in the order %b: %s, want %s", order, got, want)
			}
		}
		first := batches[0].Flow
		if names := x.Names(); names[0] != first || len(names) != 2 || !slices.Equal(x.Open(), []string{"b"}) {
			t.Errorf("in the order %b, the names are %q, and %q are open", order, names, x.Open())
		}
	}
}
