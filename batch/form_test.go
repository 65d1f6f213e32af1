package batch_test

import (
	"bytes"
	"encoding/binary"
	"math"
	"slices"
	"strings"
	"testing"

	"clockwork/api"
	"clockwork/batch"
	"clockwork/bin"
	"clockwork/event"
)

// slowForm writes the form of a valid batch; the forms of numbers are those of encoding/binary.
func slowForm(b api.Batch) []byte {
	form := append(binary.AppendUvarint(nil, uint64(len(b.Flow))), b.Flow...)
	form = binary.AppendUvarint(form, b.At)
	form = binary.AppendUvarint(form, uint64(len(b.Events)))
	for _, e := range b.Events {
		one, _ := event.Bytes(e)
		form = append(form, one...)
	}
	return form
}

// slowNumber returns the number whose form b begins with, and what comes behind it.
func slowNumber(b []byte) (uint64, []byte, bool) {
	x, size := binary.Uvarint(b)
	if size <= 0 || !bytes.Equal(binary.AppendUvarint(nil, x), b[:size]) {
		return 0, nil, false
	}
	return x, b[size:], true
}

// slowParse returns the valid batch whose form b is.
func slowParse(b []byte) (api.Batch, bool) {
	size, b, ok := slowNumber(b)
	if !ok || size < 1 || size > 1000 || size > uint64(len(b)) {
		return api.Batch{}, false
	}
	found := api.Batch{Flow: string(b[:size])}
	found.At, b, ok = slowNumber(b[size:])
	if !ok || found.At > api.MaxTick {
		return api.Batch{}, false
	}
	n, b, ok := slowNumber(b)
	if !ok || n < 1 {
		return api.Batch{}, false
	}
	for ; n > 0; n-- {
		r := bin.New(b)
		e, ok := event.Read(r)
		if !ok {
			return api.Batch{}, false
		}
		found.Events = append(found.Events, e)
		b = b[len(b)-r.Left():]
	}
	return found, len(b) == 0
}

// checkParse checks the batch whose form some bytes are, and that they are its form again.
func checkParse(t *testing.T, b []byte) bool {
	t.Helper()
	want, is := slowParse(b)
	if !is {
		checkNoForm(t, b)
		return false
	}
	got, ok := batch.Parse(b)
	if !ok || !slowSame(got, want) || !batch.Valid(got) {
		t.Errorf("Parse of %.100q: %s, %v, want %s", b, show(got), ok, show(want))
	}
	if form, ok := batch.Bytes(got); !ok || !bytes.Equal(form, b) {
		t.Errorf("%.100q is parsed, but the form is %.100q, %v", b, form, ok)
	}
	return true
}

// checkNoForm checks that b is the form of no batch.
func checkNoForm(t *testing.T, b []byte) {
	t.Helper()
	if got, ok := batch.Parse(b); ok || !slowSame(got, api.Batch{}) {
		t.Errorf("Parse of %.100q: %s, %v", b, show(got), ok)
	}
}

// P13.2: known forms, in both directions.
func TestFormKnown(t *testing.T) {
	long := strings.Repeat("w", 1000)
	for want, b := range map[string]api.Batch{
		"\x01w\x03\x01\x01\x05\x05":                                              flow(fired(5)),
		"\x01w\x00\x01\x01\x05\x05":                                              of("w", 0, fired(5)),
		"\x02w\x00\xAC\x02\x01\x01\x05\xAC\x02":                                  of("w\x00", 300, fired(300)),
		"\x01w\x03\x02\x01\x05\x05\x01\x05\x06":                                  flow(fired(5), fired(6)),
		"\x01\xFF\xFF\xFF\xFF\xFF\xFF\xFF\xFF\xFF\x7F\x01\x01\x09\x04\x00":       of("\xFF", api.MaxTick, completed(list())),
		"\xE8\x07" + long + "\x03\x01\x01\x0A\x01x":                              of(long, 3, api.Event{Kind: api.Failed, Text: "x"}),
		"\x01w\x03\x80\x01" + strings.Repeat("\x01\x05\x05", 128):                flow(slices.Repeat([]api.Event{fired(5)}, 128)...),
		"\x01w\x03\x02\x01\x01\x01p\x01\x09\x01\x07\x01\x01a\x02\x80" + zeros(7): flow(started(), scheduled(float(negativeZero))),
		"\x01w\x03\x01\x01\x09" + strings.Repeat("\x04\x01", 8) + "\x01\x02":     flow(completed(nested(8, integer(1)))),
		"\x01w\x03\x01\x01\x09\x02\x7F\xF8" + zeros(5) + "\x01":                  flow(completed(float(math.NaN()))),
		"\x01w\x03\x03\x01\x0B\x00\x01\x05\x01\x01\x02\x01\x01\x00": flow(
			api.Event{Kind: api.Panicked}, fired(1), api.Event{Kind: api.Dispatched, ID: 1, N: 1},
		),
	} {
		if got, ok := batch.Bytes(b); !ok || string(got) != want {
			t.Errorf("Bytes of %s: %.100q, %v, want %.100q", show(b), got, ok, want)
		}
		if got, ok := batch.Parse([]byte(want)); !ok || !slowSame(got, b) {
			t.Errorf("Parse of %.100q: %s, %v", want, show(got), ok)
		}
	}
}

func zeros(n int) string { return strings.Repeat("\x00", n) }

func started() api.Event { return api.Event{Kind: api.Started, Name: "p", Value: integer(-5)} }

func scheduled(v api.Value) api.Event {
	return api.Event{Kind: api.Scheduled, ID: 1, Name: "a", Value: v}
}

// P13.2: the definition of the form. All NaNs have the same one.
func TestFormDefinition(t *testing.T) {
	bs := valid()
	for _, bits := range []uint64{0x7FF0000000000001, 0x7FF8000000000000, math.MaxUint64} {
		bs = append(bs, flow(started(), scheduled(list(float(math.Float64frombits(bits))))))
	}
	for _, b := range bs {
		if got, ok := batch.Bytes(b); !ok || !bytes.Equal(got, slowForm(b)) {
			t.Errorf("Bytes of %s: %.100q, %v", show(b), got, ok)
		}
	}
}

// P13.2: Bytes gives nothing for invalid batches.
func TestFormInvalid(t *testing.T) {
	for _, b := range invalid() {
		if got, ok := batch.Bytes(b); ok || len(got) != 0 {
			t.Errorf("Bytes of %s: %.100q, %v", show(b), got, ok)
		}
	}
}

// P13.2 and P13.4: Parse inverts Bytes, if nothing comes behind a form.
func TestParseInverts(t *testing.T) {
	for _, b := range valid() {
		form, _ := batch.Bytes(b)
		if got, ok := batch.Parse(form); !ok || !slowSame(got, b) || !batch.Same(got, b) || !batch.Valid(got) {
			t.Errorf("Parse of the form of %s: %s, %v", show(b), show(got), ok)
		}
		for _, behind := range []string{"\x00", "\x01", "\x01\x05\x05", "\xFF", string(form)} {
			checkNoForm(t, append(slices.Clone(form), behind...))
		}
		checkNoForm(t, append([]byte{0}, form...))
	}
}

// P13.2: what is the form of no batch, because of its Flow.
func TestParseRejectsFlows(t *testing.T) {
	behind := "\x03\x01\x01\x05\x05"
	for _, s := range []string{
		"", "\x00", "\x02w", "\x81\x00w", "\x81\x80\x00w", "\x80", "\x80\x00", "\x08w", "\x7Fw",
		"\xE9\x07" + strings.Repeat("w", 1001), "\xE9\x07" + zeros(1001), "\xA0\x8D\x06" + strings.Repeat("w", 100000),
		"\x81\x80\x80\x80\x10w", "\xFF\xFF\xFF\xFF\xFF\xFF\xFF\xFF\xFF\x01w", "\x81\x80\x80\x80\x80\x80\x80\x80\x80\x02w",
	} {
		checkNoForm(t, []byte(s))
		checkNoForm(t, []byte(s+behind))
	}
	if _, ok := batch.Parse([]byte("\x01w" + behind)); !ok {
		t.Error("what comes behind is no end of a form")
	}
}

// P13.2: what is the form of no batch, because of its At.
func TestParseRejectsAts(t *testing.T) {
	for _, s := range []string{
		"", "\x80", "\x80\x00", "\x83\x00", "\x83\x80\x00", "\x80\x80\x80\x80\x80\x80\x80\x80\x80\x01",
		"\x83\x80\x80\x80\x80\x80\x80\x80\x80\x01", "\xFF\xFF\xFF\xFF\xFF\xFF\xFF\xFF\xFF\x01",
		"\x83\x80\x80\x80\x80\x80\x80\x80\x80\x02", "\x83\x80\x80\x80\x80\x80\x80\x80\x80\x80\x00",
	} {
		checkNoForm(t, []byte("\x01w"+s))
		checkNoForm(t, []byte("\x01w"+s+"\x01\x01\x05\x05"))
	}
}

// P13.2: what is the form of no batch, because of the number of its events, which may be far greater than the number of
// its bytes.
func TestParseRejectsNumbers(t *testing.T) {
	for _, s := range []string{
		"", "\x00", "\x02", "\x80", "\x80\x00", "\x81\x00", "\x81\x80\x00", "\x80\x01", "\xFF\xFF\xFF\xFF\x0F",
		"\x81\x80\x80\x80\x10", "\x81\x80\x80\x80\x80\x80\x80\x80\x80\x01", "\x81\x80\x80\x80\x80\x80\x80\x80\x80\x02",
		"\xFF\xFF\xFF\xFF\xFF\xFF\xFF\xFF\x7F", "\xFF\xFF\xFF\xFF\xFF\xFF\xFF\xFF\xFF\x01",
	} {
		checkNoForm(t, []byte("\x01w\x03"+s))
		checkNoForm(t, []byte("\x01w\x03"+s+"\x01\x05\x05"))
	}
	three := "\x01\x05\x05\x01\x05\x06\x01\x05\x07"
	for n := range 256 {
		b := []byte("\x01w\x03" + string([]byte{byte(n)}) + three)
		if checkParse(t, b) != (n == 3) {
			t.Errorf("Parse of %q", b)
		}
	}
}

// P13.2: what is the form of no batch, because of one of its events.
func TestParseRejectsEvents(t *testing.T) {
	long := strings.Repeat("n", 1001)
	for _, s := range []string{
		"\x00\x05\x05", "\x02\x05\x05", "\x81\x00\x05\x05", "\x01\x00\x05", "\x01\x0C\x05", "\x01\x85\x00\x05", "\x01\x05\x00",
		"\x01\x05\x85\x00", "\x01\x05", "\x01", "\x01\x09\x05", "\x01\x09\x02\x7F\xF8" + zeros(6), "\x01\x06\x00\x00\x00",
		"\x01\x08\x01\x80\x80\x80\x80\x80\x80\x80\x80\x80\x01", "\x01\x0A\xE9\x07" + long, "\x01\x03\x01\x00\x00",
		"\x01\x09" + strings.Repeat("\x04\x01", 9) + "\x00", "\x01\x85\x80\x80\x80\x10\x05",
	} {
		checkNoForm(t, []byte("\x01w\x03\x01"+s))
		checkNoForm(t, []byte("\x01w\x03\x02"+s+"\x01\x05\x05"))
		checkNoForm(t, []byte("\x01w\x03\x02\x01\x05\x05"+s))
		checkNoForm(t, []byte("\x01w\x03\x03\x01\x05\x05"+s+"\x01\x05\x05"))
	}
}

// P13.2 and P13.4: forms that are cut short, or in which a byte is another one, is missing, or is there twice.
func TestParseDamaged(t *testing.T) {
	parsed := 0
	seen := map[string]bool{}
	for _, b := range valid() {
		form := slowForm(b)
		if len(form) > 25 || seen[string(form)] {
			continue
		}
		seen[string(form)] = true
		for i := range form {
			checkNoForm(t, form[:i])
			checkParse(t, slices.Concat(form[:i], form[i+1:]))
			checkParse(t, slices.Concat(form[:i+1], form[i:]))
			for c := range 256 {
				if checkParse(t, slices.Concat(form[:i], []byte{byte(c)}, form[i+1:])) {
					parsed++
				}
			}
		}
	}
	if parsed < 1000 {
		t.Errorf("only %d forms are parsed", parsed)
	}
}

// P13.2 and P13.4: random bytes, most of which are small, as they are and as the end of a form.
func TestParseRandom(t *testing.T) {
	r := newRandom()
	parsed := 0
	for range 50000 {
		b := make([]byte, r.IntN(12))
		for i := range b {
			b[i] = []byte{0, 1, 1, 2, 3, 5, 5, 9, 10, 127, 128, 129, 255, byte(r.Uint32())}[r.IntN(14)]
		}
		checkParse(t, b)
		for _, head := range []string{"\x01w", "\x01w\x03\x01", "\x01w\x03\x01\x01", "\x01w\x03\x02\x01\x05\x05\x01"} {
			if checkParse(t, append([]byte(head), b...)) {
				parsed++
			}
		}
	}
	if parsed < 1000 {
		t.Errorf("only %d forms are parsed", parsed)
	}
}

// P13.4: different batches have different forms, and the same batch has one.
func TestFormsDiffer(t *testing.T) {
	seen := map[string]api.Batch{}
	for _, b := range valid() {
		form, _ := batch.Bytes(b)
		if before, ok := seen[string(form)]; ok && !slowSame(before, b) {
			t.Errorf("%s and %s have the form %.100q", show(before), show(b), form)
		}
		seen[string(form)] = b
		if again, _ := batch.Bytes(slowClone(b)); !bytes.Equal(again, form) {
			t.Errorf("%s has the forms %.100q and %.100q", show(b), form, again)
		}
	}
}
