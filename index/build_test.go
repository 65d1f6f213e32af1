package index_test

import (
	"fmt"
	"math"
	"math/rand/v2"
	"slices"
	"testing"

	"clockwork/api"
	"clockwork/batch"
	"clockwork/index"
)

// forms returns the forms of valid batches.
func forms(t *testing.T, batches ...api.Batch) [][]byte {
	t.Helper()
	var records [][]byte
	for _, b := range batches {
		record, ok := batch.Bytes(b)
		if !ok {
			t.Fatalf("%+v is not valid", b)
		}
		records = append(records, record)
	}
	return records
}

// builds fails the test unless the index of some records is that of some batches.
func builds(t *testing.T, records [][]byte, batches ...api.Batch) {
	t.Helper()
	x, n, code := index.Build(records...)
	if x == nil || n != len(records) || code != api.OK {
		t.Fatalf("Build of %x: %v, %d, %v", records, x, n, code)
	}
	if got, want := show(x), show(filled(t, batches...)); got != want {
		t.Errorf("Build of %x: %s, want %s", records, got, want)
	}
}

// stops fails the test unless there is no index of some records because of one of them.
func stops(t *testing.T, at int, want api.Code, records ...[]byte) {
	t.Helper()
	if x, n, code := index.Build(records...); x != nil || n != at || code != want {
		t.Errorf("Build of %x: %v, %d, %v, want %d, %v", records, x, n, code, at, want)
	}
}

// story is the batches of three workflows.
func story() []api.Batch {
	return []api.Batch{
		of("b", 5, started(), scheduled(1), armed(2, 9)),
		of("a", 5, started()),
		of("b", 6, dispatched(1, 1, 20)),
		of("a", 6, signal("k"), armed(1, 7)),
		of("a", 7, fired(1), completed()),
		of("c", 8, started()),
		of("b", 9, fired(2)),
		of("b", 9, finished(1, 1)),
	}
}

// P14.3: Records are the forms of the batches in their order, not in that of the workflows.
func TestRecords(t *testing.T) {
	x := filled(t, of("w", 3, started()), of("v", 3, started(), armed(1, 4)), of("w", 4, signal("")), of("v", 4, fired(1)))
	want := []string{
		"\x01w\x03\x01\x01\x01\x01p\x01\x0E", "\x01v\x03\x02\x01\x01\x01p\x01\x0E\x01\x08\x01\x04",
		"\x01w\x04\x01\x01\x06\x01s\x00\x04\x01\x01\x02", "\x01v\x04\x01\x01\x05\x01",
	}
	var got []string
	for _, record := range x.Records() {
		got = append(got, string(record))
	}
	if !slices.Equal(got, want) {
		t.Errorf("the records are %q, want %q", got, want)
	}
	if got, want := filled(t, story()...).Records(), forms(t, story()...); fmt.Sprint(got) != fmt.Sprint(want) {
		t.Errorf("the records are %x, want %x", got, want)
	}
}

// P14.3: batches that were refused have no record.
func TestRecordsOfRefused(t *testing.T) {
	x := index.New()
	for _, b := range story() {
		refuses(t, x, api.ErrOrder, of("d", 9, signal("")), of("d", 9, started(), scheduled(7)))
		refuses(t, x, api.ErrRange, of("d", 9))
		add(t, x, b)
	}
	if got, want := x.Records(), forms(t, story()...); fmt.Sprint(got) != fmt.Sprint(want) {
		t.Errorf("the records are %x, want %x", got, want)
	}
}

// P14.3: the index of no records is one without histories, to which batches can be added.
func TestBuildNothing(t *testing.T) {
	builds(t, nil)
	builds(t, [][]byte{})
	x, _, _ := index.Build()
	add(t, x, of("w", 0, started()))
	tells(t, x, []string{"w"}, []string{"w"}, 0)
}

// P14.3 and P14.4: the index of each beginning of some records has the same histories, and goes on.
func TestBuildAgain(t *testing.T) {
	batches := story()
	records := filled(t, batches...).Records()
	for n := range len(batches) + 1 {
		builds(t, records[:n], batches[:n]...)
		x, _, _ := index.Build(records[:n]...)
		add(t, x, batches[n:]...)
		if got, want := show(x), show(filled(t, batches...)); got != want {
			t.Errorf("from %d on: %s, want %s", n, got, want)
		}
	}
}

// P14.4: values of all kinds are the same behind Build, also those with the same form.
func TestBuildValues(t *testing.T) {
	float := func(f float64) api.Value { return api.Value{Kind: api.Float, F: f} }
	for _, v := range []api.Value{
		{}, integer(math.MinInt64), float(math.Copysign(0, -1)), float(math.Inf(1)), float(math.NaN()),
		float(math.Float64frombits(0x7FF0000000000001)), float(math.Float64frombits(math.MaxUint64)), text(""), text("\xFF"),
		list(), list(float(math.NaN()), list(list(text("deep")), integer(1))),
	} {
		b := of("w", 5, api.Event{Kind: api.Started, Name: "p", Value: v}, api.Event{Kind: api.Completed, Value: v})
		x := filled(t, b)
		builds(t, x.Records(), b)
		if got := x.Flow("w").Batches(); len(got) != 1 || !batch.Same(got[0], b) {
			t.Errorf("the batches are %+v, want %+v", got, b)
		}
	}
}

// P14.3: the first record that is no form of a batch, at each place.
func TestBuildSyntax(t *testing.T) {
	good := forms(t, story()...)
	one := good[0]
	for _, bad := range [][]byte{
		nil, {}, {0}, {1}, []byte("w"), one[:len(one)-1], one[1:], append(slices.Clone(one), 0),
		slices.Concat(one, one), []byte("\x00\x05\x01\x01\x01\x01p\x00"), []byte("\x01w\x05\x00"), []byte("\x01w\x05\x01"),
		[]byte("\x01w\x05\x01\x02\x01\x01p\x00"), []byte("\x01w\x85\x00\x01\x01\x01\x01p\x00"),
		[]byte("\x01w\x80\x80\x80\x80\x80\x80\x80\x80\x80\x01\x01\x01\x01\x01p\x00"),
		[]byte("\x01w\x05\xFF\xFF\xFF\xFF\xFF\xFF\xFF\xFF\xFF\x01\x01\x01\x01p\x00"),
	} {
		for n := range len(good) + 1 {
			stops(t, n, api.ErrSyntax, slices.Insert(slices.Clone(good), n, bad)...)
			stops(t, n, api.ErrSyntax, slices.Insert(slices.Clone(good), n, bad, bad)...)
		}
	}
}

// P14.3: the first record whose batch does not fit, and its code.
func TestBuildFits(t *testing.T) {
	good := forms(t, story()...)
	for n := range len(good) + 1 {
		now := index.New()
		add(t, now, story()[:n]...)
		for want, batches := range map[api.Code][]api.Batch{
			api.ErrOrder: {
				of("d", 9, signal("")), of("d", 9, scheduled(1)), of("d", 9, started(), scheduled(2)), of("d", 9, started(), started()),
				of("b", 9, fired(3)),
			},
			api.ErrClosed: {of("a", 9, signal("")), of("a", 9, started()), of("a", 9, completed())},
		} {
			for _, bad := range forms(t, batches...) {
				b, _ := batch.Parse(bad)
				if now.Fits(b) == want {
					stops(t, n, want, slices.Insert(slices.Clone(good), n, bad)...)
					stops(t, n, want, slices.Insert(slices.Clone(good), n, bad, nil)...)
				}
			}
		}
		if n > 0 {
			stops(t, n, api.ErrOrder, slices.Insert(slices.Clone(good), n, forms(t, of("d", 4, started()))...)...)
			stops(t, n, now.Fits(story()[0]), slices.Insert(slices.Clone(good), n, good[0])...)
		}
	}
	stops(t, len(good), api.ErrClosed, append(slices.Clone(good), forms(t, of("a", 9, signal("")))...)...)
	stops(t, len(good), api.ErrOrder, append(slices.Clone(good), good[4])...)
	stops(t, 0, api.ErrOrder, good[2:]...)
	stops(t, 1, api.ErrOrder, good[0], good[3])
	stops(t, 0, api.ErrOrder, good[7], good[7])
	stops(t, len(good), api.ErrOrder, append(slices.Clone(good), good[7], good[7])...)
}

// P4 and P14.3: of any bytes, there is an index, whose records they are, or a code; random bytes, and records in which
// a byte is another one.
func TestBuildAnything(t *testing.T) {
	r := rand.New(rand.NewPCG(41, 14))
	seen := map[api.Code]int{}
	good := forms(t, story()...)
	for range 8000 {
		records := make([][]byte, 0, len(good))
		for _, record := range good {
			records = append(records, slices.Clone(record))
		}
		switch i, j := r.IntN(len(good)), r.IntN(len(good)); r.IntN(6) {
		case 0:
			records[i] = []byte{byte(r.Uint32()), byte(r.Uint32()), byte(r.IntN(3)), byte(r.IntN(3)), 1, byte(r.IntN(12))}
		case 1:
			records[i], records[j] = records[j], records[i]
		case 2:
			records = slices.Delete(records, i, i+1)
		case 3:
			records = slices.Insert(records, j, slices.Clone(records[i]))
		default:
			records[i][r.IntN(len(records[i]))] ^= 1 << r.IntN(8)
		}
		x, n, code := index.Build(records...)
		seen[code]++
		if code == api.OK {
			if n != len(records) || fmt.Sprint(x.Records()) != fmt.Sprint(records) {
				t.Fatalf("Build of %x: %d, and the records are %x", records, n, x.Records())
			}
			continue
		}
		y, before, ok := index.Build(records[:n]...)
		if x != nil || ok != api.OK || before != n {
			t.Fatalf("Build of %x: %v, %d, %v, but of those in front: %d, %v", records, x, n, code, before, ok)
		}
		want := api.ErrSyntax
		if b, ok := batch.Parse(records[n]); ok {
			want = y.Fits(b)
		}
		if code != want {
			t.Fatalf("Build of %x: %d, %v, want %v", records, n, code, want)
		}
	}
	for _, code := range []api.Code{api.OK, api.ErrSyntax, api.ErrOrder, api.ErrClosed} {
		if seen[code] < 50 {
			t.Errorf("only %d times the code %v", seen[code], code)
		}
	}
}
