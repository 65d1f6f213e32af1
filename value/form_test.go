package value_test

import (
	"bytes"
	"encoding/binary"
	"math"
	"slices"
	"testing"

	"clockwork/api"
	"clockwork/bin"
	"clockwork/num"
	"clockwork/value"
)

// slowForm writes the form of a valid value; the forms of numbers are those of encoding/binary.
func slowForm(v api.Value) []byte {
	form := []byte{byte(v.Kind)}
	switch v.Kind {
	case api.Int:
		form = binary.AppendVarint(form, v.N)
	case api.Float:
		form = binary.BigEndian.AppendUint64(form, num.Bits(v.F))
	case api.Text:
		form = append(binary.AppendUvarint(form, uint64(len(v.S))), v.S...)
	case api.List:
		form = binary.AppendUvarint(form, uint64(len(v.L)))
		for _, x := range v.L {
			form = append(form, slowForm(x)...)
		}
	}
	return form
}

// slowNumber returns the number whose form b begins with, and the size of this form, which is 0 if there is none.
func slowNumber(b []byte) (uint64, int) {
	x, size := binary.Uvarint(b)
	if size <= 0 || !bytes.Equal(binary.AppendUvarint(nil, x), b[:size]) {
		return 0, 0
	}
	return x, size
}

// slowRead returns the value whose form b begins with, and the size of this form, which is 0 if there is none.
func slowRead(b []byte, depth int) (api.Value, int) {
	if len(b) == 0 {
		return api.Value{}, 0
	}
	kind, rest := b[0], b[1:]
	x, size := slowNumber(rest)
	switch {
	case kind == api.Nil:
		return api.Value{}, 1
	case kind == api.Int && size > 0:
		n, _ := binary.Varint(rest)
		return integer(n), 1 + size
	case kind == api.Float && len(rest) >= 8:
		f := math.Float64frombits(binary.BigEndian.Uint64(rest))
		if f != f && !bytes.Equal(rest[:8], []byte("\x7F\xF8\x00\x00\x00\x00\x00\x01")) {
			return api.Value{}, 0
		}
		return float(f), 9
	case kind == api.Text && size > 0 && x <= uint64(len(rest)-size):
		return text(string(rest[size : size+int(x)])), 1 + size + int(x)
	case kind == api.List && size > 0 && depth > 0:
		var vs []api.Value
		used := 1 + size
		for range x {
			v, n := slowRead(b[used:], depth-1)
			if n == 0 {
				return api.Value{}, 0
			}
			vs = append(vs, v)
			used += n
		}
		return list(vs...), used
	}
	return api.Value{}, 0
}

// checkNoForm checks that b begins with the form of no value.
func checkNoForm(t *testing.T, b []byte) {
	t.Helper()
	if v, ok := value.Read(bin.New(b)); ok || !slowSame(v, api.Value{}) {
		t.Errorf("Read of %.100q: %s, %v", b, show(v), ok)
	}
}

// P4.3: known forms, in both directions.
func TestFormKnown(t *testing.T) {
	for want, v := range map[string]api.Value{
		"\x00": {}, "\x01\x00": integer(0), "\x01\x01": integer(-1), "\x01\x02": integer(1), "\x01\x09": integer(-5),
		"\x01\x7F": integer(-64), "\x01\x80\x01": integer(64), "\x01\xD8\x04": integer(300),
		"\x01\xFE\xFF\xFF\xFF\xFF\xFF\xFF\xFF\xFF\x01": integer(math.MaxInt64),
		"\x01\xFF\xFF\xFF\xFF\xFF\xFF\xFF\xFF\xFF\x01": integer(math.MinInt64),
		"\x02\x00\x00\x00\x00\x00\x00\x00\x00":         float(0),
		"\x02\x80\x00\x00\x00\x00\x00\x00\x00":         float(negativeZero),
		"\x02\x3F\xF8\x00\x00\x00\x00\x00\x00":         float(1.5),
		"\x02\x40\x09\x21\xFB\x54\x44\x2D\x18":         float(math.Pi),
		"\x02\x7F\xF0\x00\x00\x00\x00\x00\x00":         float(math.Inf(1)),
		"\x02\xFF\xF0\x00\x00\x00\x00\x00\x00":         float(math.Inf(-1)),
		"\x02\x7F\xF8\x00\x00\x00\x00\x00\x01":         float(math.NaN()),
		"\x03\x00":                                     text(""), "\x03\x01a": text("a"), "\x03\x02a\xFF": text("a\xFF"),
		"\x04\x00": list(), "\x04\x01\x00": list(api.Value{}), "\x04\x02\x01\x09\x03\x01a": list(integer(-5), text("a")),
		"\x04\x03\x01\x02\x04\x01\x03\x00\x00":                             list(integer(1), list(text("")), api.Value{}),
		"\x04\x01\x04\x01\x04\x01\x04\x01\x04\x01\x04\x01\x04\x01\x04\x00": nested(7, list()),
	} {
		if got, ok := value.Bytes(v); !ok || string(got) != want {
			t.Errorf("Bytes of %s: %q, %v, want %q", show(v), got, ok, want)
		}
		r := bin.New([]byte(want))
		if got, ok := value.Read(r); !ok || !slowSame(got, v) || !r.Done() {
			t.Errorf("Read of %q: %s, %v, Done %v", want, show(got), ok, r.Done())
		}
	}
}

// P4.3: the definition of the form. All NaNs have the same one.
func TestFormDefinition(t *testing.T) {
	vs := valid()
	for _, bits := range []uint64{0x7FF0000000000001, 0x7FF8000000000000, 0xFFF8000000000001, math.MaxUint64} {
		vs = append(vs, float(math.Float64frombits(bits)), list(text("a"), float(math.Float64frombits(bits))))
	}
	for _, v := range vs {
		if got, ok := value.Bytes(v); !ok || !bytes.Equal(got, slowForm(v)) {
			t.Errorf("Bytes of %s: %.100q, %v", show(v), got, ok)
		}
	}
}

// P4.3: Bytes gives nothing for invalid values.
func TestFormInvalid(t *testing.T) {
	for _, v := range invalid() {
		if got, ok := value.Bytes(v); ok || len(got) != 0 {
			t.Errorf("Bytes of %s: %.100q, %v", show(v), got, ok)
		}
	}
}

// P4.3 and P4.5: Read inverts Bytes, and leaves what comes behind.
func TestReadInverts(t *testing.T) {
	vs := valid()
	var all []byte
	for _, v := range vs {
		form, _ := value.Bytes(v)
		all = append(all, form...)
		r := bin.New(append(slices.Clone(form), 4, 0, 9))
		got, ok := value.Read(r)
		if !ok || !slowSame(got, v) || !value.Valid(got) || !value.Same(got, v) || r.Left() != 3 || !r.Ok() {
			t.Errorf("Read of the form of %s: %s, %v, %d left", show(v), show(got), ok, r.Left())
		}
	}
	r := bin.New(all)
	for _, v := range vs {
		if got, ok := value.Read(r); !ok || !slowSame(got, v) {
			t.Errorf("Read of %s among others: %s, %v", show(v), show(got), ok)
		}
	}
	if !r.Done() {
		t.Errorf("%d bytes are left", r.Left())
	}
}

// P4.3: bytes that begin with the form of no value.
func TestReadRejects(t *testing.T) {
	longest := bytes.Repeat([]byte{255}, 9)
	for _, s := range []string{
		"", "\x05", "\x06\x00", "\x7F", "\xFF", "\x80", "\x80\x00", "\x81\x00\x02", "\x82\x00\x00\x00\x00\x00\x00\x00\x00\x00",
		"\x84\x00\x00", "\x85\x00", "\x80\x01", "\x81\x01\x02", "\x80\x80\x80\x80\x10", "\x81\x80\x80\x80\x10\x02", // kinds
		"\xFF\xFF\xFF\xFF\xFF\xFF\xFF\xFF\xFF\x01", "\x80\x80\x80\x80\x80\x80\x80\x80\x80\x02",
		"\x01", "\x01\x80", "\x01\x80\x00", "\x01\x82\x00", "\x01\xFF\x80\x00", // Ints
		"\x01\xFF\xFF\xFF\xFF\xFF\xFF\xFF\xFF\xFF\x02", "\x01\xFF\xFF\xFF\xFF\xFF\xFF\xFF\xFF\xFF\x81\x00",
		"\x02", "\x02\x00", "\x02\x3F\xF8\x00\x00\x00\x00\x00", "\x02\x7F\xF8\x00\x00\x00\x00\x00\x00", // Floats
		"\x02\x7F\xF0\x00\x00\x00\x00\x00\x01", "\x02\x7F\xF8\x00\x00\x00\x00\x00\x02", "\x02\xFF\xF8\x00\x00\x00\x00\x00\x01",
		"\x02\xFF\xFF\xFF\xFF\xFF\xFF\xFF\xFF",
		"\x03", "\x03\x01", "\x03\x02a", "\x03\x80\x00", "\x03\x81\x00a", "\x03\x80", "\x03\x80\x01a", // Texts
		"\x03" + string(longest) + "\x01a", "\x03" + string(longest) + "\x02a", "\x03\x80\x80\x80\x80\x10",
		"\x04", "\x04\x01", "\x04\x02\x00", "\x04\x80\x00", "\x04\x81\x00\x00", "\x04\x80", "\x04\x01\x05", // Lists
		"\x04\x02\x00\x05",
		"\x04" + string(longest) + "\x01", "\x04" + string(longest) + "\x01\x00\x00", "\x04\x80\x80\x80\x80\x10\x00",
		"\x04\xFF\xFF\xFF\xFF\x0F\x00",
		"\x04\x01\x01\x80\x00", "\x04\x01\x02\x7F\xF8\x00\x00\x00\x00\x00\x00", "\x04\x01\x03\x01", "\x04\x01\x04\x01",
	} {
		checkNoForm(t, []byte(s))
	}
}

// P4.3: a value may be 8 deep, but not more, however much comes behind it.
func TestReadDeep(t *testing.T) {
	for lists := range 51 {
		for _, inner := range []api.Value{{}, list(), list(integer(1), text("a")), float(1)} {
			v := nested(lists, inner)
			form := slowForm(v)
			if slowDepth(v) > 8 {
				checkNoForm(t, form)
				checkNoForm(t, append(slowForm(list(integer(1), list(), v)), 0, 0, 0))
				continue
			}
			if got, ok := value.Read(bin.New(form)); !ok || !slowSame(got, v) {
				t.Errorf("Read of the form of %s: %s, %v", show(v), show(got), ok)
			}
		}
	}
	for _, one := range []string{"\x04\x01", "\x04\x02", "\x04\x02\x00", "\x04\xFF\xFF\xFF\x7F"} {
		checkNoForm(t, bytes.Repeat([]byte(one), 1<<18))
		checkNoForm(t, append(bytes.Repeat([]byte(one), 1<<18), make([]byte, 1<<19)...))
	}
}

// P4.3: nothing is read by a reader that is not ok.
func TestReadNotOk(t *testing.T) {
	failed := bin.New([]byte{0, 0, 0})
	failed.Take(-1)
	for name, r := range map[string]*bin.Reader{"nil": nil, "without bytes": bin.New(nil), "failed": failed} {
		if v, ok := value.Read(r); ok || !slowSame(v, api.Value{}) {
			t.Errorf("a reader that is %s: %s, %v", name, show(v), ok)
		}
	}
}

// checkRead checks the value that bytes begin with.
func checkRead(t *testing.T, b []byte) {
	t.Helper()
	want, size := slowRead(b, api.MaxDepth)
	r := bin.New(b)
	got, ok := value.Read(r)
	if ok != (size > 0) || !slowSame(got, want) || ok && r.Left() != len(b)-size {
		t.Errorf("Read of %q: %s, %v, want %s, %d", b, show(got), ok, show(want), size)
	}
}

// P4.3 and P4.5: forms that are cut short, or in which a byte is another one, is missing, or is there twice.
func TestReadDamaged(t *testing.T) {
	for _, v := range inOrder() {
		form := slowForm(v)
		for i := range form {
			checkNoForm(t, form[:i])
			checkRead(t, slices.Concat(form[:i], form[i+1:]))
			checkRead(t, slices.Concat(form[:i+1], form[i:]))
			if len(form) > 60 && 2 < i {
				continue
			}
			for b := range 256 {
				checkRead(t, slices.Concat(form[:i], []byte{byte(b)}, form[i+1:]))
			}
		}
	}
}

// P4.3 and P4.5: random bytes, most of which are small.
func TestReadRandom(t *testing.T) {
	r := newRandom()
	for range 100000 {
		b := make([]byte, r.IntN(20))
		for i := range b {
			b[i] = []byte{0, 1, 2, 3, 4, 4, 5, 127, 128, 255, byte(r.Uint32())}[r.IntN(11)]
		}
		checkRead(t, b)
		checkRead(t, append([]byte{4, 2}, b...))
	}
}

// P4.3: results share no memory with each other, nor with what they were made from.
func TestFormsApart(t *testing.T) {
	v := list(text("a"), list(integer(1)))
	form, _ := value.Bytes(v)
	other, _ := value.Bytes(v)
	clear(other)
	if !bytes.Equal(form, slowForm(v)) {
		t.Errorf("%q was changed with another result", form)
	}
	r := bin.New(slices.Concat(form, form))
	first, _ := value.Read(r)
	second, _ := value.Read(r)
	overwrite(first)
	clear(form)
	if !slowSame(second, v) {
		t.Errorf("%s was changed with another result", show(second))
	}
}

// P4.5: different values have different forms, and the same value has one.
func TestFormsDiffer(t *testing.T) {
	seen := map[string]api.Value{}
	for _, v := range append(inOrder(), randomValues(20000)...) {
		form, _ := value.Bytes(v)
		if before, ok := seen[string(form)]; ok && !slowSame(before, v) {
			t.Errorf("%s and %s have the form %q", show(before), show(v), form)
		}
		seen[string(form)] = v
	}
}
