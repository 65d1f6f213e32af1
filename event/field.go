package event

import (
	"strconv"

	"clockwork/api"
	"clockwork/bin"
	"clockwork/value"
)

// Fields of events, in the order that they have in forms and texts.
const (
	fieldID = iota
	fieldN
	fieldAt
	fieldName
	fieldText
	fieldValue
	fieldCount // their number
)

// maxAttempt is the greatest number of an attempt.
const maxAttempt = 1<<31 - 1

// emptyChecks returns what reports for each field of e whether it is zero or empty.
func emptyChecks(e api.Event) [fieldCount]func() bool {
	return [...]func() bool{
		fieldID:    func() bool { return e.ID == 0 },
		fieldN:     func() bool { return e.N == 0 },
		fieldAt:    func() bool { return e.At == 0 },
		fieldName:  func() bool { return e.Name == "" },
		fieldText:  func() bool { return e.Text == "" },
		fieldValue: func() bool { return value.Same(e.Value, api.Value{}) },
	}
}

// rightChecks returns what reports for each field of e whether it may be so in a valid event that has it.
func rightChecks(e api.Event) [fieldCount]func() bool {
	return [...]func() bool{
		fieldID:    func() bool { return e.ID != 0 },
		fieldN:     func() bool { return 1 <= e.N && e.N <= maxAttempt },
		fieldAt:    func() bool { return e.At <= api.MaxTick },
		fieldName:  func() bool { return e.Name != "" && len(e.Name) <= api.MaxText },
		fieldText:  func() bool { return len(e.Text) <= api.MaxText },
		fieldValue: func() bool { return value.Valid(e.Value) },
	}
}

// formWriters returns what gives the form of each field of e, if it is right.
func formWriters(e api.Event) [fieldCount]func() []byte {
	return [...]func() []byte{
		fieldID:   func() []byte { return bin.Uint(e.ID) },
		fieldN:    func() []byte { return bin.Uint(uint64(e.N)) },
		fieldAt:   func() []byte { return bin.Uint(e.At) },
		fieldName: func() []byte { return bin.Text(e.Name) },
		fieldText: func() []byte { return bin.Text(e.Text) },
		fieldValue: func() []byte {
			form, _ := value.Bytes(e.Value)
			return form
		},
	}
}

// textWriters returns what gives the text of each field of e, if it is right.
func textWriters(e api.Event) [fieldCount]func() string {
	return [...]func() string{
		fieldID:    func() string { return strconv.FormatUint(e.ID, 10) },
		fieldN:     func() string { return strconv.Itoa(e.N) },
		fieldAt:    func() string { return strconv.FormatUint(e.At, 10) },
		fieldName:  func() string { return quoted(e.Name) },
		fieldText:  func() string { return quoted(e.Text) },
		fieldValue: func() string { return value.Text(e.Value) },
	}
}

// fieldReaders returns what reads each field of e, which need not be right then, and reports whether its form was there.
func fieldReaders(r *bin.Reader, e *api.Event) [fieldCount]func() bool {
	return [...]func() bool{
		fieldID: func() bool {
			e.ID = r.Uint()
			return r.Ok()
		},
		fieldN: func() (ok bool) {
			e.N, ok = small(r.Uint())
			return ok && r.Ok()
		},
		fieldAt: func() bool {
			e.At = r.Uint()
			return r.Ok()
		},
		fieldName: func() bool {
			e.Name = r.Text()
			return r.Ok()
		},
		fieldText: func() bool {
			e.Text = r.Text()
			return r.Ok()
		},
		fieldValue: func() (ok bool) {
			e.Value, ok = value.Read(r)
			return ok
		},
	}
}

// small returns x as an int, which it may not fit in, or false if it is greater than all numbers of attempts and kinds.
func small(x uint64) (int, bool) {
	if x > maxAttempt {
		return 0, false
	}
	return int(x), true
}

// quoted returns the text of s as a value.
func quoted(s string) string { return value.Text(api.Value{Kind: api.Text, S: s}) }
