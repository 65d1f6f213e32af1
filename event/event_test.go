package event_test

import (
	"fmt"
	"math"
	"math/rand/v2"
	"slices"
	"strings"
	"testing"

	"clockwork/api"
	"clockwork/event"
	"clockwork/value"
)

// kindInfo is a row of the chapter's table of kinds.
type kindInfo struct {
	name   string
	fields string
}

// kinds is the chapter's table of kinds.
var kinds = map[int]kindInfo{
	1:  {"started", "Name, Value"},
	2:  {"dispatched", "ID, N, At"},
	3:  {"finished", "ID, N, Value"},
	4:  {"broken", "ID, N, At, Text"},
	5:  {"fired", "ID"},
	6:  {"signal", "Name, Text, Value"},
	7:  {"scheduled", "ID, Name, Value"},
	8:  {"armed", "ID, At"},
	9:  {"completed", "Value"},
	10: {"failed", "Text"},
	11: {"panicked", "Text"},
}

// oddKinds are numbers that are no kind; some become one if they are cut to fewer bits.
var oddKinds = []int{
	math.MinInt, math.MinInt + 5, -1 << 32, -256 + 5, -11, -5, -1, 0, 12, 13, 16, 127, 128, 255, 256, 256 + 5, 1<<16 + 5,
	1 << 32, 1<<32 + 5, 1<<63 - 1,
}

var negativeZero = math.Copysign(0, -1)

func integer(n int64) api.Value      { return api.Value{Kind: api.Int, N: n} }
func float(f float64) api.Value      { return api.Value{Kind: api.Float, F: f} }
func text(s string) api.Value        { return api.Value{Kind: api.Text, S: s} }
func list(vs ...api.Value) api.Value { return api.Value{Kind: api.List, L: vs} }
func newRandom() *rand.Rand          { return rand.New(rand.NewPCG(31, 32)) }

// has reports whether events of a kind have a field.
func has(kind int, field string) bool {
	return slices.Contains(strings.Split(kinds[kind].fields, ", "), field)
}

// show prints an event, also an invalid one.
func show(e api.Event) string { return fmt.Sprintf("%.200s", fmt.Sprintf("%+v", e)) }

// nested returns v in as many Lists as given.
func nested(lists int, v api.Value) api.Value {
	for range lists {
		v = list(v)
	}
	return v
}

// What the fields of valid events may have.
var (
	goodIDs   = []uint64{1, 2, 5, 127, 128, 300, 1 << 31, 1 << 32, 1 << 63, math.MaxUint64 - 1, math.MaxUint64}
	goodNs    = []int{1, 2, 9, 10, 127, 128, 1 << 16, 1<<31 - 2, 1<<31 - 1}
	goodAts   = []uint64{0, 1, 9, 127, 128, 300, 1 << 32, 1<<63 - 2, 1<<63 - 1}
	goodNames = []string{
		"a", "b", "ab", "\x00", " ", "\"", "nil", "61", "é", "\xFF\xFE", strings.Repeat("n", 127), strings.Repeat("n", 128),
		strings.Repeat("n", 999), strings.Repeat("n", 1000), strings.Repeat("\xFF", 1000), strings.Repeat("é", 500),
	}
	goodTexts  = append([]string{""}, goodNames...)
	goodValues = []api.Value{
		{}, integer(0), integer(-5), integer(math.MinInt64), float(0), float(negativeZero), float(1.5), float(math.NaN()),
		text(""), text("a"), text(strings.Repeat("v", 1001)), list(), list(integer(-5), text("a")), nested(8, text("deep")),
		nested(7, list()), {Kind: api.List, L: []api.Value{}}, {L: []api.Value{}},
	}
)

// What no field of a valid event may have; and names and texts that are too long.
var (
	badNs    = []int{math.MinInt, -1 << 31, -1, 1 << 31, 1<<31 + 1, 1<<32 + 1, math.MaxInt}
	badAts   = []uint64{1 << 63, 1<<63 + 1, math.MaxUint64}
	tooLong  = []string{strings.Repeat("n", 1001), strings.Repeat("\x00", 1001), strings.Repeat("é", 501), strings.Repeat("n", 100000)}
	badValue = []api.Value{
		{Kind: 5}, {Kind: -1}, {N: 1}, {F: 1}, {F: negativeZero}, {F: math.NaN()}, {S: "a"}, {L: []api.Value{{}}},
		{Kind: api.Int, S: "a"}, {Kind: api.Float, N: 1}, {Kind: api.Text, F: negativeZero}, list(integer(1), api.Value{Kind: 9}),
		nested(9, integer(1)), nested(8, list()), nested(50, api.Value{}),
	}
)

// one returns any of xs.
func one[T any](r *rand.Rand, xs []T) T { return xs[r.IntN(len(xs))] }

// randomEvent returns a valid event of a kind.
func randomEvent(r *rand.Rand, kind int) api.Event {
	e := api.Event{Kind: kind}
	if has(kind, "ID") {
		e.ID = one(r, goodIDs)
	}
	if has(kind, "N") {
		e.N = one(r, goodNs)
	}
	if has(kind, "At") {
		e.At = one(r, goodAts)
	}
	if has(kind, "Name") {
		e.Name = one(r, goodNames)
	}
	if has(kind, "Text") {
		e.Text = one(r, goodTexts)
	}
	if has(kind, "Value") {
		e.Value = one(r, goodValues)
	}
	return e
}

// plain returns a valid event of each kind, with short fields.
func plain() []api.Event {
	var es []api.Event
	for kind := 1; kind <= 11; kind++ {
		e := api.Event{Kind: kind}
		if has(kind, "ID") {
			e.ID = 5
		}
		if has(kind, "N") {
			e.N = 2
		}
		if has(kind, "At") {
			e.At = 300
		}
		if has(kind, "Name") {
			e.Name = "p"
		}
		if has(kind, "Text") {
			e.Text = "k"
		}
		if has(kind, "Value") {
			e.Value = list(integer(-5), text("a"))
		}
		es = append(es, e)
	}
	return es
}

// withEach returns e with each of xs in a field.
func withEach[T any](e api.Event, field func(e *api.Event) *T, xs []T) []api.Event {
	var es []api.Event
	for _, x := range xs {
		c := e
		*field(&c) = x
		es = append(es, c)
	}
	return es
}

func kindOf(e *api.Event) *int        { return &e.Kind }
func idOf(e *api.Event) *uint64       { return &e.ID }
func nOf(e *api.Event) *int           { return &e.N }
func atOf(e *api.Event) *uint64       { return &e.At }
func nameOf(e *api.Event) *string     { return &e.Name }
func textOf(e *api.Event) *string     { return &e.Text }
func valueOf(e *api.Event) *api.Value { return &e.Value }

// valid returns events of all kinds, each field of which is once all that it may be.
func valid() []api.Event {
	es := plain()
	for _, e := range plain() {
		if has(e.Kind, "ID") {
			es = append(es, withEach(e, idOf, goodIDs)...)
		}
		if has(e.Kind, "N") {
			es = append(es, withEach(e, nOf, goodNs)...)
		}
		if has(e.Kind, "At") {
			es = append(es, withEach(e, atOf, goodAts)...)
		}
		if has(e.Kind, "Name") {
			es = append(es, withEach(e, nameOf, goodNames)...)
		}
		if has(e.Kind, "Text") {
			es = append(es, withEach(e, textOf, goodTexts)...)
		}
		if has(e.Kind, "Value") {
			es = append(es, withEach(e, valueOf, goodValues)...)
		} else {
			es = append(es, withEach(e, valueOf, []api.Value{{L: []api.Value{}}})...) // empty, but not nil
		}
	}
	r := newRandom()
	for i := range 3000 {
		es = append(es, randomEvent(r, 1+i%11))
	}
	return es
}

// invalid returns events that are not valid because of one field.
func invalid() []api.Event {
	var es []api.Event
	for _, e := range append(plain(), api.Event{}) {
		es = append(es, withEach(e, kindOf, oddKinds)...)
	}
	for _, e := range plain() {
		if has(e.Kind, "ID") {
			es = append(es, withEach(e, idOf, []uint64{0})...)
		} else {
			es = append(es, withEach(e, idOf, goodIDs)...)
		}
		es = append(es, withEach(e, nOf, badNs)...)
		if has(e.Kind, "N") {
			es = append(es, withEach(e, nOf, []int{0})...)
		} else {
			es = append(es, withEach(e, nOf, goodNs)...)
		}
		es = append(es, withEach(e, atOf, badAts)...)
		if !has(e.Kind, "At") {
			es = append(es, withEach(e, atOf, goodAts[1:])...)
		}
		es = append(es, withEach(e, nameOf, tooLong)...)
		if has(e.Kind, "Name") {
			es = append(es, withEach(e, nameOf, []string{""})...)
		} else {
			es = append(es, withEach(e, nameOf, goodNames)...)
		}
		es = append(es, withEach(e, textOf, tooLong)...)
		if !has(e.Kind, "Text") {
			es = append(es, withEach(e, textOf, goodNames)...)
		}
		es = append(es, withEach(e, valueOf, badValue)...)
		if !has(e.Kind, "Value") {
			es = append(es, withEach(e, valueOf, goodValues[1:len(goodValues)-1])...) // those but Nil
		}
	}
	return es
}

// changed returns e with something else, right or not, in one of its fields.
func changed(r *rand.Rand, e api.Event) api.Event {
	switch r.IntN(7) {
	case 0:
		e.Kind = r.IntN(14) - 1
	case 1:
		e.ID = one(r, append([]uint64{0}, goodIDs...))
	case 2:
		e.N = one(r, append(append([]int{0}, goodNs...), badNs...))
	case 3:
		e.At = one(r, append(goodAts[:len(goodAts):len(goodAts)], badAts...))
	case 4:
		e.Name = one(r, append([]string{"", tooLong[0]}, goodNames...))
	case 5:
		e.Text = one(r, append([]string{tooLong[0]}, goodTexts...))
	default:
		e.Value = one(r, append(goodValues[:len(goodValues):len(goodValues)], badValue...))
	}
	return e
}

// slowValid goes through the rules of the chapter one by one.
func slowValid(e api.Event) bool {
	if _, is := kinds[e.Kind]; !is {
		return false
	}
	for _, wrong := range []bool{
		has(e.Kind, "ID") != (e.ID != 0),
		has(e.Kind, "N") != (e.N != 0) || e.N < 0 || e.N > 2147483647,
		!has(e.Kind, "At") && e.At != 0 || e.At > 9223372036854775807,
		has(e.Kind, "Name") != (len(e.Name) > 0) || len(e.Name) > 1000,
		!has(e.Kind, "Text") && len(e.Text) > 0 || len(e.Text) > 1000,
		!has(e.Kind, "Value") && e.Value.Kind != api.Nil || !value.Valid(e.Value),
	} {
		if wrong {
			return false
		}
	}
	return true
}

// slowSame compares field by field.
func slowSame(a, b api.Event) bool {
	return value.Same(a.Value, b.Value) && a.Text == b.Text && a.Name == b.Name && a.At == b.At && a.N == b.N &&
		a.ID == b.ID && a.Kind == b.Kind
}

// clone returns a copy of e that shares no memory.
func clone(e api.Event) api.Event {
	e.Value = value.Clone(e.Value)
	return e
}

// P11.1: events of each kind that are valid.
func TestValid(t *testing.T) {
	for _, e := range valid() {
		if !event.Valid(e) {
			t.Errorf("%s is not valid", show(e))
		}
	}
}

// P11.1: events that are not valid, each because of one field.
func TestInvalid(t *testing.T) {
	for _, e := range invalid() {
		if event.Valid(e) {
			t.Errorf("%s is valid", show(e))
		}
	}
	if event.Valid(api.Event{}) {
		t.Error("the zero Event is valid")
	}
}

// P11.1: the definition, for events in which one to three fields are other ones.
func TestValidDefinition(t *testing.T) {
	r := newRandom()
	for i := range 20000 {
		e := randomEvent(r, 1+i%11)
		for range 3 {
			e = changed(r, e)
			if got, want := event.Valid(e), slowValid(e); got != want {
				t.Errorf("Valid of %s: %v", show(e), got)
			}
		}
	}
}

// P11.1: the kinds, and numbers that are none.
func TestKinds(t *testing.T) {
	for kind, k := range kinds {
		if got := event.Name(kind); got != k.name {
			t.Errorf("Name(%d) = %q", kind, got)
		}
		if got := event.Outside(kind); got != (kind <= 6) {
			t.Errorf("Outside(%d) = %v", kind, got)
		}
		if got := event.Closes(kind); got != (kind >= 9) {
			t.Errorf("Closes(%d) = %v", kind, got)
		}
	}
	for _, kind := range oddKinds {
		if name := event.Name(kind); name != "" || event.Outside(kind) || event.Closes(kind) {
			t.Errorf("of the kind %d: Name %q, Outside %v, Closes %v", kind, name, event.Outside(kind), event.Closes(kind))
		}
	}
}

// P11.1: each field counts, whatever the kind.
func TestSameKnown(t *testing.T) {
	for _, kind := range append([]int{1, 2, 3, 4, 5, 6, 7, 8, 9, 10, 11}, oddKinds...) {
		e := api.Event{Kind: kind}
		for _, other := range []api.Event{
			{Kind: kind ^ 1}, {Kind: kind ^ 1<<32}, {Kind: kind, ID: 1}, {Kind: kind, ID: 1 << 63}, {Kind: kind, N: 1},
			{Kind: kind, N: -1 << 32}, {Kind: kind, At: 1}, {Kind: kind, At: 1 << 63}, {Kind: kind, Name: "a"},
			{Kind: kind, Name: "\x00"}, {Kind: kind, Text: "a"}, {Kind: kind, Text: "\x00"}, {Kind: kind, Value: integer(0)},
			{Kind: kind, Value: api.Value{N: 1}}, {Kind: kind, Value: api.Value{F: negativeZero}}, {Kind: kind, Value: list()},
			{Kind: kind, Value: api.Value{L: []api.Value{{}}}}, {Kind: kind, Value: api.Value{S: "a"}},
		} {
			if event.Same(e, other) || event.Same(other, e) || !event.Same(other, clone(other)) {
				t.Errorf("%s and %s", show(e), show(other))
			}
		}
		if !event.Same(e, api.Event{Kind: kind, Value: api.Value{L: []api.Value{}}}) {
			t.Errorf("an empty slice that is not nil, for the kind %d", kind)
		}
		nan := api.Event{Kind: kind, Value: list(float(math.NaN()))}
		if !event.Same(nan, api.Event{Kind: kind, Value: list(float(math.Float64frombits(math.MaxUint64)))}) {
			t.Errorf("NaNs are not the same, for the kind %d", kind)
		}
	}
	if event.Same(api.Event{Name: "a"}, api.Event{Text: "a"}) || event.Same(api.Event{ID: 7}, api.Event{At: 7}) {
		t.Error("fields are confused")
	}
}

// P11.1: the definition of Same, for valid and invalid events.
func TestSameDefinition(t *testing.T) {
	r := newRandom()
	es := append(valid(), invalid()...)
	check := func(a, b api.Event) {
		want := slowSame(a, b)
		if event.Same(a, b) != want || event.Same(b, a) != want {
			t.Errorf("Same of %s and %s is not %v", show(a), show(b), want)
		}
	}
	for _, e := range es {
		check(e, clone(e))
		check(e, changed(r, e))
		check(changed(r, e), changed(r, e))
		check(e, one(r, es))
	}
}

// Rule 4: no call changes its arguments.
func TestArgumentsKept(t *testing.T) {
	for _, e := range append(valid(), invalid()...) {
		before := clone(e)
		event.Valid(e)
		event.Same(e, e)
		event.Bytes(e)
		event.Text(e)
		if !slowSame(e, before) {
			t.Errorf("%s was changed: %s", show(before), show(e))
		}
	}
}
