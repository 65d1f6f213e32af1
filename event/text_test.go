package event_test

import (
	"fmt"
	"math"
	"slices"
	"strings"
	"testing"

	"clockwork/api"
	"clockwork/event"
	"clockwork/value"
)

// slowText writes the text of a valid event.
func slowText(e api.Event) string {
	s := kinds[e.Kind].name
	for _, field := range strings.Split(kinds[e.Kind].fields, ", ") {
		switch field {
		case "ID":
			s += fmt.Sprintf(" %d", e.ID)
		case "N":
			s += fmt.Sprintf(" %d", e.N)
		case "At":
			s += fmt.Sprintf(" %d", e.At)
		case "Name":
			s += fmt.Sprintf(` "%x"`, e.Name)
		case "Text":
			s += fmt.Sprintf(` "%x"`, e.Text)
		case "Value":
			s += " " + value.Text(e.Value)
		}
	}
	return s
}

// P11.3: known texts.
func TestTextKnown(t *testing.T) {
	for want, e := range map[string]api.Event{
		`started "70" nil`:        {Kind: api.Started, Name: "p"},
		`started "6162" [1 "c3"]`: {Kind: api.Started, Name: "ab", Value: list(integer(1), text("\xC3"))},
		"dispatched 3 2 300":      {Kind: api.Dispatched, ID: 3, N: 2, At: 300},
		"dispatched 18446744073709551615 2147483647 9223372036854775807": {
			Kind: api.Dispatched, ID: math.MaxUint64, N: math.MaxInt32, At: api.MaxTick,
		},
		"finished 3 1 nil":    {Kind: api.Finished, ID: 3, N: 1},
		"finished 3 1 #-0":    {Kind: api.Finished, ID: 3, N: 1, Value: float(negativeZero)},
		`broken 3 2 0 "78"`:   {Kind: api.Broken, ID: 3, N: 2, Text: "x"},
		`broken 3 2 9 ""`:     {Kind: api.Broken, ID: 3, N: 2, At: 9},
		"fired 5":             {Kind: api.Fired, ID: 5},
		`signal "73" "6b" -5`: {Kind: api.Signal, Name: "s", Text: "k", Value: integer(-5)},
		`signal "22" "" ""`:   {Kind: api.Signal, Name: "\"", Value: text("")},
		`scheduled 1 "00" []`: {Kind: api.Scheduled, ID: 1, Name: "\x00", Value: list()},
		"armed 1 0":           {Kind: api.Armed, ID: 1},
		"armed 10 9":          {Kind: api.Armed, ID: 10, At: 9},
		"completed nil":       {Kind: api.Completed},
		`completed "6e696c"`:  {Kind: api.Completed, Value: text("nil")},
		`failed ""`:           {Kind: api.Failed},
		`failed "fffe"`:       {Kind: api.Failed, Text: "\xFF\xFE"},
		`panicked "2031"`:     {Kind: api.Panicked, Text: " 1"},
	} {
		if got := event.Text(e); got != want {
			t.Errorf("Text of %s: %q, want %q", show(e), got, want)
		}
	}
}

// P11.3: the definition of the text.
func TestTextDefinition(t *testing.T) {
	for _, e := range valid() {
		if got, want := event.Text(e), slowText(e); got != want {
			t.Errorf("Text of %s: %.100q, want %.100q", show(e), got, want)
		}
	}
}

// P11.3: the text of invalid events is empty.
func TestTextInvalid(t *testing.T) {
	for _, e := range append(invalid(), api.Event{}) {
		if got := event.Text(e); got != "" {
			t.Errorf("Text of %s: %.100q", show(e), got)
		}
	}
}

// P11.4: valid events have the same text exactly if they are the same.
func TestTextsDiffer(t *testing.T) {
	es := valid()
	r := newRandom()
	for _, e := range slices.Clone(es) {
		if other := changed(r, e); slowValid(other) {
			es = append(es, other)
		}
	}
	seen := map[string]api.Event{}
	for _, e := range es {
		text := event.Text(e)
		if before, ok := seen[text]; ok && !event.Same(before, e) {
			t.Errorf("%s and %s have the text %.100q", show(before), show(e), text)
		}
		seen[text] = e
		if again := event.Text(clone(e)); again != text {
			t.Errorf("%s has the texts %.100q and %.100q", show(e), text, again)
		}
	}
	nan := api.Event{Kind: api.Completed, Value: float(math.NaN())}
	other := api.Event{Kind: api.Completed, Value: float(math.Float64frombits(math.MaxUint64))}
	if event.Text(nan) != event.Text(other) || event.Text(nan) != "completed #nan" {
		t.Errorf("the texts of NaNs are %q and %q", event.Text(nan), event.Text(other))
	}
}
