package event_test

import (
	"bytes"
	"encoding/binary"
	"math"
	"slices"
	"strings"
	"testing"

	"clockwork/api"
	"clockwork/bin"
	"clockwork/event"
	"clockwork/value"
)

// slowForm writes the form of a valid event; the forms of numbers are those of encoding/binary.
func slowForm(e api.Event) []byte {
	form := []byte{1, byte(e.Kind)}
	if has(e.Kind, "ID") {
		form = binary.AppendUvarint(form, e.ID)
	}
	if has(e.Kind, "N") {
		form = binary.AppendUvarint(form, uint64(e.N))
	}
	if has(e.Kind, "At") {
		form = binary.AppendUvarint(form, e.At)
	}
	if has(e.Kind, "Name") {
		form = append(binary.AppendUvarint(form, uint64(len(e.Name))), e.Name...)
	}
	if has(e.Kind, "Text") {
		form = append(binary.AppendUvarint(form, uint64(len(e.Text))), e.Text...)
	}
	if has(e.Kind, "Value") {
		v, _ := value.Bytes(e.Value)
		form = append(form, v...)
	}
	return form
}

// slowReader reads from the front of b; ok is false from the first form on that is not there.
type slowReader struct {
	b  []byte
	ok bool
}

func (s *slowReader) number(most uint64) uint64 {
	x, size := binary.Uvarint(s.b)
	if !s.ok || size <= 0 || x > most || !bytes.Equal(binary.AppendUvarint(nil, x), s.b[:size]) {
		s.ok = false
		return 0
	}
	s.b = s.b[size:]
	return x
}

func (s *slowReader) text() string {
	n := s.number(uint64(len(s.b)))
	if !s.ok || n > uint64(len(s.b)) {
		s.ok = false
		return ""
	}
	text := string(s.b[:n])
	s.b = s.b[n:]
	return text
}

func (s *slowReader) value() api.Value {
	r := bin.New(s.b)
	v, ok := value.Read(r)
	if !s.ok || !ok {
		s.ok = false
		return api.Value{}
	}
	s.b = s.b[len(s.b)-r.Left():]
	return v
}

// slowRead returns the valid event whose form b begins with, and what comes behind this form.
func slowRead(b []byte) (api.Event, []byte, bool) {
	s := &slowReader{b, true}
	if len(b) < 2 || b[0] != 1 || b[1] < 1 || b[1] > 11 {
		return api.Event{}, nil, false
	}
	e := api.Event{Kind: int(b[1])}
	s.b = b[2:]
	if has(e.Kind, "ID") {
		e.ID = s.number(math.MaxUint64)
	}
	if has(e.Kind, "N") {
		e.N = int(s.number(1<<31 - 1))
	}
	if has(e.Kind, "At") {
		e.At = s.number(1<<63 - 1)
	}
	if has(e.Kind, "Name") {
		e.Name = s.text()
	}
	if has(e.Kind, "Text") {
		e.Text = s.text()
	}
	if has(e.Kind, "Value") {
		e.Value = s.value()
	}
	if !s.ok || !slowValid(e) {
		return api.Event{}, nil, false
	}
	return e, s.b, true
}

// checkRead checks the event that bytes begin with.
func checkRead(t *testing.T, b []byte) {
	t.Helper()
	want, left, is := slowRead(b)
	r := bin.New(b)
	got, ok := event.Read(r)
	if ok != is || !slowSame(got, want) || ok && (r.Left() != len(left) || !r.Ok()) {
		t.Errorf("Read of %.100q: %s, %v, want %s, %v", b, show(got), ok, show(want), is)
	}
}

// checkNoForm checks that b begins with the form of no event.
func checkNoForm(t *testing.T, b []byte) {
	t.Helper()
	if e, ok := event.Read(bin.New(b)); ok || !slowSame(e, api.Event{}) {
		t.Errorf("Read of %.100q: %s, %v", b, show(e), ok)
	}
}

// P11.2: known forms, in both directions.
func TestFormKnown(t *testing.T) {
	long := strings.Repeat("n", 1000)
	for want, e := range map[string]api.Event{
		"\x01\x01\x01p\x00":                                {Kind: api.Started, Name: "p"},
		"\x01\x01\x02ab\x03\x01c":                          {Kind: api.Started, Name: "ab", Value: text("c")},
		"\x01\x02\x03\x02\xAC\x02":                         {Kind: api.Dispatched, ID: 3, N: 2, At: 300},
		"\x01\x02\x01\x01\x00":                             {Kind: api.Dispatched, ID: 1, N: 1},
		"\x01\x03\xAC\x02\x01\x01\x09":                     {Kind: api.Finished, ID: 300, N: 1, Value: integer(-5)},
		"\x01\x03\x01\xFF\xFF\xFF\xFF\x07\x04\x00":         {Kind: api.Finished, ID: 1, N: 1<<31 - 1, Value: list()},
		"\x01\x04\x01\x02\x03\x00":                         {Kind: api.Broken, ID: 1, N: 2, At: 3},
		"\x01\x04\x01\x02\x00\x02\x00\xFF":                 {Kind: api.Broken, ID: 1, N: 2, Text: "\x00\xFF"},
		"\x01\x05\x05":                                     {Kind: api.Fired, ID: 5},
		"\x01\x05\xFF\xFF\xFF\xFF\xFF\xFF\xFF\xFF\xFF\x01": {Kind: api.Fired, ID: math.MaxUint64},
		"\x01\x06\x01s\x00\x00":                            {Kind: api.Signal, Name: "s"},
		"\x01\x06\x01s\x01k\x01\x02":                       {Kind: api.Signal, Name: "s", Text: "k", Value: integer(1)},
		"\x01\x07\x01\x01a\x00":                            {Kind: api.Scheduled, ID: 1, Name: "a"},
		"\x01\x07\x01\xE8\x07" + long + "\x00":             {Kind: api.Scheduled, ID: 1, Name: long},
		"\x01\x08\x01\x09":                                 {Kind: api.Armed, ID: 1, At: 9},
		"\x01\x08\x01\xFF\xFF\xFF\xFF\xFF\xFF\xFF\xFF\x7F": {Kind: api.Armed, ID: 1, At: api.MaxTick},
		"\x01\x09\x00":                                     {Kind: api.Completed},
		"\x01\x09\x04\x02\x01\x02\x00":                     {Kind: api.Completed, Value: list(integer(1), api.Value{})},
		"\x01\x0A\x00":                                     {Kind: api.Failed},
		"\x01\x0A\xE8\x07" + long:                          {Kind: api.Failed, Text: long},
		"\x01\x0B\x01x":                                    {Kind: api.Panicked, Text: "x"},
		"\x01\x0B\x0Etoo many steps":                       {Kind: api.Panicked, Text: "too many steps"},
		"\x01\x09\x02\x80" + zeros(7):                      {Kind: api.Completed, Value: float(negativeZero)},
		"\x01\x09\x02\x7F\xF8" + nanTail:                   {Kind: api.Completed, Value: float(math.NaN())},
	} {
		if got, ok := event.Bytes(e); !ok || string(got) != want {
			t.Errorf("Bytes of %s: %.100q, %v, want %.100q", show(e), got, ok, want)
		}
		r := bin.New([]byte(want))
		if got, ok := event.Read(r); !ok || !slowSame(got, e) || !r.Done() {
			t.Errorf("Read of %.100q: %s, %v, Done %v", want, show(got), ok, r.Done())
		}
	}
}

// nanTail is what the bits of the NaN have behind the first two bytes.
const nanTail = "\x00\x00\x00\x00\x00\x01"

func zeros(n int) string { return strings.Repeat("\x00", n) }

// P11.2: the definition of the form.
func TestFormDefinition(t *testing.T) {
	for _, e := range valid() {
		if got, ok := event.Bytes(e); !ok || !bytes.Equal(got, slowForm(e)) {
			t.Errorf("Bytes of %s: %.100q, %v", show(e), got, ok)
		}
	}
}

// P11.2: Bytes gives nothing for invalid events.
func TestFormInvalid(t *testing.T) {
	for _, e := range append(invalid(), api.Event{}) {
		if got, ok := event.Bytes(e); ok || len(got) != 0 {
			t.Errorf("Bytes of %s: %.100q, %v", show(e), got, ok)
		}
	}
}

// P11.2 and P11.4: Read inverts Bytes, and leaves what comes behind.
func TestReadInverts(t *testing.T) {
	es := valid()
	var all []byte
	for _, e := range es {
		form, _ := event.Bytes(e)
		all = append(all, form...)
		r := bin.New(append(slices.Clone(form), 1, 0, 9))
		got, ok := event.Read(r)
		if !ok || !slowSame(got, e) || !event.Valid(got) || !event.Same(got, e) || r.Left() != 3 || !r.Ok() {
			t.Errorf("Read of the form of %s: %s, %v, %d left", show(e), show(got), ok, r.Left())
		}
	}
	r := bin.New(all)
	for _, e := range es {
		if got, ok := event.Read(r); !ok || !slowSame(got, e) {
			t.Errorf("Read of %s among others: %s, %v", show(e), show(got), ok)
		}
	}
	if !r.Done() {
		t.Errorf("%d bytes are left", r.Left())
	}
	if e, ok := event.Read(r); ok || !slowSame(e, api.Event{}) {
		t.Errorf("Read of nothing: %s, %v", show(e), ok)
	}
}

// P11.2: versions and kinds that there are not.
func TestReadRejectsKinds(t *testing.T) {
	fields := "\x05\x05\x05\x01a\x01a\x00\x00\x00"
	for version := range 256 {
		if version != 1 {
			checkNoForm(t, append([]byte{byte(version), 5}, fields...))
		}
	}
	for _, version := range []string{"\x81\x00", "\x81\x80\x00", "\x81\x01", "\x81\x80\x80\x80\x10"} {
		checkNoForm(t, []byte(version+"\x05"+fields))
	}
	kinds := []string{"\x85\x00", "\x85\x80\x00", "\x8A\x00", "\x80", "\x80\x80\x80\x80\x80\x80\x80\x80\x80\x02"}
	for kind := uint64(12); kind < 1000; kind++ {
		kinds = append(kinds, string(binary.AppendUvarint(nil, kind)))
	}
	for kind := range uint64(12) { // cut to fewer bits, they are kinds
		for _, bits := range []int{8, 16, 31, 32, 63} {
			kinds = append(kinds, string(binary.AppendUvarint(nil, kind+1<<bits)))
		}
		kinds = append(kinds, string(binary.AppendUvarint(nil, -kind-1)))
	}
	for _, kind := range append(kinds, "\x00") {
		checkNoForm(t, []byte("\x01"+kind+fields))
		checkNoForm(t, []byte("\x01"+kind))
	}
}

// P11.2: fields that are not right.
func TestReadRejectsFields(t *testing.T) {
	long := strings.Repeat("n", 1001)
	for _, s := range []string{
		"", "\x01", "\x05\x05", "\x05",
		"\x01\x05", "\x01\x05\x00", "\x01\x05\x80", "\x01\x05\x85\x00", // IDs
		"\x01\x05\xFF\xFF\xFF\xFF\xFF\xFF\xFF\xFF\xFF\x02", "\x01\x02\x00\x01\x01", "\x01\x07\x00\x01a\x00",
		"\x01\x03\x01\x00\x00", "\x01\x03\x01\x80\x80\x80\x80\x08\x00", "\x01\x03\x01\x81\x80\x80\x80\x08\x00", // Ns
		"\x01\x03\x01\x81\x80\x80\x80\x10\x00", "\x01\x03\x01\x81\x80\x80\x80\x80\x80\x80\x80\x80\x01\x00",
		"\x01\x03\x01\xFF\xFF\xFF\xFF\xFF\xFF\xFF\xFF\xFF\x01\x00", "\x01\x03\x01", "\x01\x03\x01\x81\x00\x00",
		"\x01\x08\x01", "\x01\x08\x01\x80\x80\x80\x80\x80\x80\x80\x80\x80\x01", "\x01\x08\x01\x80", // Ats
		"\x01\x08\x01\xFF\xFF\xFF\xFF\xFF\xFF\xFF\xFF\xFF\x01", "\x01\x08\x01\x80\x00", "\x01\x02\x01\x01",
		"\x01\x01\x00\x00", "\x01\x01\xE9\x07" + long + "\x00", "\x01\x01\x02a", "\x01\x01\x81\x00a\x00", "\x01\x01", // Names
		"\x01\x06\x00\x00\x00", "\x01\x07\x01\x00\x00",
		"\x01\x0A", "\x01\x0A\x01", "\x01\x0A\xE9\x07" + long, "\x01\x0B\xE9\x07" + long, "\x01\x0A\x80\x00", // Texts
		"\x01\x06\x01s\xE9\x07" + long + "\x00", "\x01\x04\x01\x01\x00", "\x01\x04\x01\x01\x00\x01",
		"\x01\x0A\xFF\xFF\xFF\xFF\xFF\xFF\xFF\xFF\xFF\x01abc",
		"\x01\x09", "\x01\x09\x05", "\x01\x09\x01", "\x01\x09\x80\x00", "\x01\x09\x03\x01", "\x01\x09\x04\x01", // Values
		"\x01\x09\x02\x7F\xF8" + zeros(6), "\x01\x09\x02\xFF\xF8" + nanTail, "\x01\x09\x04\x02\x00\x07",
		"\x01\x09" + strings.Repeat("\x04\x01", 9) + "\x00", "\x01\x01\x01p\x05", "\x01\x01\x01p", "\x01\x06\x01s\x01k\x06",
		"\x01\x03\x01\x01\x05", "\x01\x07\x01\x01a\x05",
	} {
		checkNoForm(t, []byte(s))
		if _, _, is := slowRead([]byte(s)); is {
			t.Errorf("slowRead accepts %.100q", s)
		}
	}
}

// P11.2: nothing is read by a reader that is not ok.
func TestReadNotOk(t *testing.T) {
	failed := bin.New([]byte{1, 10, 0})
	failed.Take(-1)
	for name, r := range map[string]*bin.Reader{"nil": nil, "without bytes": bin.New(nil), "failed": failed} {
		if e, ok := event.Read(r); ok || !slowSame(e, api.Event{}) {
			t.Errorf("a reader that is %s: %s, %v", name, show(e), ok)
		}
	}
}

// P11.2 and P11.4: forms that are cut short, or in which a byte is another one, is missing, or is there twice.
func TestReadDamaged(t *testing.T) {
	for _, e := range valid()[:300] {
		form := slowForm(e)
		if len(form) > 60 {
			continue
		}
		for i := range form {
			checkNoForm(t, form[:i])
			checkRead(t, slices.Concat(form[:i], form[i+1:]))
			checkRead(t, slices.Concat(form[:i+1], form[i:]))
			for b := range 256 {
				checkRead(t, slices.Concat(form[:i], []byte{byte(b)}, form[i+1:]))
			}
		}
	}
}

// P11.2 and P11.4: random bytes, most of which are small, behind each kind.
func TestReadRandom(t *testing.T) {
	r := newRandom()
	for i := range 200000 {
		b := make([]byte, r.IntN(12))
		for i := range b {
			b[i] = []byte{0, 1, 2, 3, 4, 5, 127, 128, 129, 255, byte(r.Uint32())}[r.IntN(11)]
		}
		checkRead(t, b)
		checkRead(t, append([]byte{1, byte(i % 13)}, b...))
	}
}

// P11.2: results share no memory with each other, nor with what they were made from.
func TestFormsApart(t *testing.T) {
	e := api.Event{Kind: api.Completed, Value: list(text("a"), list(integer(1)))}
	form, _ := event.Bytes(e)
	other, _ := event.Bytes(e)
	clear(other)
	if !bytes.Equal(form, slowForm(e)) {
		t.Errorf("%q was changed with another result", form)
	}
	double := slices.Concat(form, form)
	r := bin.New(double)
	first, _ := event.Read(r)
	second, _ := event.Read(r)
	first.Value.L[1].L[0] = api.Value{Kind: -99}
	first.Value.L[0] = api.Value{Kind: -99}
	clear(double)
	if !slowSame(second, e) {
		t.Errorf("%s was changed with another result", show(second))
	}
}

// P11.4: different events have different forms, and the same event has one.
func TestFormsDiffer(t *testing.T) {
	seen := map[string]api.Event{}
	for _, e := range valid() {
		form, _ := event.Bytes(e)
		if before, ok := seen[string(form)]; ok && !slowSame(before, e) {
			t.Errorf("%s and %s have the form %.100q", show(before), show(e), form)
		}
		seen[string(form)] = e
	}
}
