package batch_test

import (
	"fmt"
	"math"
	"strings"
	"testing"

	"clockwork/api"
	"clockwork/batch"
	"clockwork/event"
)

// slowText writes the text of a valid batch.
func slowText(b api.Batch) string {
	s := fmt.Sprintf(`"%x" %d`, b.Flow, b.At)
	for _, e := range b.Events {
		s += fmt.Sprintf("; %s", event.Text(e))
	}
	return s
}

// P13.3: known texts.
func TestTextKnown(t *testing.T) {
	for want, b := range map[string]api.Batch{
		`"77" 3; fired 5`:              flow(fired(5)),
		`"77" 3; fired 5; fired 6`:     flow(fired(5), fired(6)),
		`"77" 0; completed nil`:        of("w", 0, completed(api.Value{})),
		`"3b20" 1; failed "3b20"`:      of("; ", 1, api.Event{Kind: api.Failed, Text: "; "}),
		`"00ff" 10; completed [-5 []]`: of("\x00\xFF", 10, completed(list(integer(-5), list()))),
		`"c3a9" 9223372036854775807; started "70" -5; scheduled 1 "61" #-0; panicked ""`: of(
			"é", api.MaxTick, started(), scheduled(float(negativeZero)), api.Event{Kind: api.Panicked},
		),
		`"` + strings.Repeat("77", 1000) + `" 3; fired 18446744073709551615`: of(strings.Repeat("w", 1000), 3, fired(math.MaxUint64)),
	} {
		if got := batch.Text(b); got != want {
			t.Errorf("Text of %s: %.200q, want %.200q", show(b), got, want)
		}
	}
}

// P13.3: the definition of the text.
func TestTextDefinition(t *testing.T) {
	for _, b := range valid() {
		if got, want := batch.Text(b), slowText(b); got != want {
			t.Errorf("Text of %s: %.200q, want %.200q", show(b), got, want)
		}
	}
}

// P13.3: the text of invalid batches is empty.
func TestTextInvalid(t *testing.T) {
	for _, b := range invalid() {
		if got := batch.Text(b); got != "" {
			t.Errorf("Text of %s: %.200q", show(b), got)
		}
	}
}
