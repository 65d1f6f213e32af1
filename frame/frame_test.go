package frame_test

import (
	"bytes"
	"math/rand/v2"
	"testing"

	"clockwork/frame"
	"clockwork/sum"
)

func newRandom() *rand.Rand { return rand.New(rand.NewPCG(11, 12)) }

func randomBytes(r *rand.Rand, n int) []byte {
	b := make([]byte, n)
	for i := range b {
		b[i] = byte(r.Uint32())
	}
	return b
}

// fourBytes returns a number as four bytes, the lowest byte first.
func fourBytes(n uint32) []byte {
	return []byte{byte(n), byte(n >> 8), byte(n >> 16), byte(n >> 24)}
}

// numbered returns sealed bytes: a number, which need not fit, and a record.
func numbered(n uint32, record []byte) []byte {
	b := append(fourBytes(n), record...)
	return append(b, fourBytes(sum.Sum(b))...)
}

// slowFrame returns the frame of a record, as the chapter says it.
func slowFrame(record []byte) []byte { return numbered(uint32(len(record)), record) }

// slowFrames returns the frames of records, one after the other.
func slowFrames(records [][]byte) []byte {
	var b []byte
	for _, record := range records {
		b = append(b, slowFrame(record)...)
	}
	return b
}

// slowSplit looks for the frame of each number of bytes, and goes on behind it.
func slowSplit(b []byte) (records [][]byte, size int) {
	for end := size + 8; end <= len(b); end++ {
		record := b[size+4 : end-4]
		if bytes.Equal(b[size:end], slowFrame(record)) {
			records = append(records, record)
			size = end
			end += 7
		}
	}
	return records, size
}

func equal(a, b [][]byte) bool {
	if len(a) != len(b) {
		return false
	}
	for i := range a {
		if !bytes.Equal(a[i], b[i]) {
			return false
		}
	}
	return true
}

// lists are lists of records, empty records among them.
func lists() [][][]byte {
	r := newRandom()
	all := [][][]byte{
		nil,
		{},
		{nil},
		{{}},
		{nil, {}, nil},
		{{7, 8}},
		{{1}, nil, {2, 3}},
		{nil, {0}, nil, nil, {0, 0, 0, 0}, nil},
		{slowFrame([]byte("inner")), slowFrame(nil)},
		{randomBytes(r, 255), randomBytes(r, 256), randomBytes(r, 257)},
	}
	for range 30 {
		list := make([][]byte, r.IntN(8))
		for i := range list {
			list[i] = randomBytes(r, r.IntN(5)*r.IntN(10))
		}
		all = append(all, list)
	}
	return all
}

// tails are bytes that begin with no frame.
func tails() map[string][]byte {
	whole := slowFrame([]byte("ab"))
	wrongSum := bytes.Clone(whole)
	wrongSum[len(wrongSum)-1] ^= 1
	most := numbered(frame.Most+1, make([]byte, frame.Most+1))
	return map[string][]byte{
		"nil":                           nil,
		"nothing":                       {},
		"one byte":                      {0},
		"one byte of a number":          {1},
		"zeros, too few":                make([]byte, 7),
		"zeros":                         make([]byte, 8),
		"no checksum":                   {0, 0, 0, 0},
		"a part of a checksum":          slowFrame(nil)[:7],
		"a frame without its last byte": whole[:9],
		"a frame without its first":     whole[1:],
		"a wrong checksum":              wrongSum,
		"the highest byte first":        sum.Seal([]byte{0, 0, 0, 2, 'a', 'b'}),
		"nothing sealed":                sum.Seal(nil),
		"a record without a number":     sum.Seal([]byte("abcdef")),
		"1 for no bytes":                numbered(1, nil),
		"1 for two bytes":               numbered(1, []byte("ab")),
		"0 for one byte":                numbered(0, []byte{5}),
		"0 for four zeros":              numbered(0, make([]byte, 4)),
		"3 for two bytes":               numbered(3, []byte("ab")),
		"2^20 + 1 for one byte":         numbered(1<<20+1, []byte{5}),
		"2^20 for one byte":             numbered(1<<20, []byte{5}),
		"2^20 + 1, and as many":         most,
		"2^24 + 2 for two bytes":        numbered(1<<24+2, []byte("ab")),
		"2^31 for no bytes":             numbered(1<<31, nil),
		"2^32 - 1 for no bytes":         numbered(1<<32-1, nil),
		"2^32 - 8 for eight bytes":      numbered(1<<32-8, make([]byte, 8)),
		"2^32 - 1 without a checksum":   {255, 255, 255, 255, 0, 0, 0, 0},
	}
}

// P6.1: frames that are written out, byte by byte.
func TestMakeKnown(t *testing.T) {
	for _, c := range []struct{ record, want string }{
		{"", "\x00\x00\x00\x00\xC7\x4B\x67\x48"},
		{"\x00", "\x01\x00\x00\x00\x00" + string(fourBytes(sum.Sum([]byte{1, 0, 0, 0, 0})))},
		{"\x07\x08", "\x02\x00\x00\x00\x07\x08" + string(fourBytes(sum.Sum([]byte{2, 0, 0, 0, 7, 8})))},
	} {
		if got, ok := frame.Make([]byte(c.record)); !ok || string(got) != c.want {
			t.Errorf("Make(%q) = %q, %v, want %q", c.record, got, ok, c.want)
		}
	}
	if got, ok := frame.Make(nil); !ok || string(got) != "\x00\x00\x00\x00\xC7\x4B\x67\x48" {
		t.Errorf("Make(nil) = %q, %v", got, ok)
	}
}

// P6.1: the definition, for records of many lengths up to the greatest.
func TestMakeDefinition(t *testing.T) {
	r := newRandom()
	lengths := []int{1<<16 - 1, 1 << 16, 1<<16 + 1, 1<<20 - 1, 1 << 20}
	for n := range 600 {
		lengths = append(lengths, n)
	}
	for _, n := range lengths {
		record := randomBytes(r, n)
		got, ok := frame.Make(record)
		if !ok || len(got) != n+8 || !bytes.Equal(got, slowFrame(record)) {
			t.Errorf("a record of %d bytes: %d bytes, %v", n, len(got), ok)
		}
	}
}

// P6.1: records that are too long have no frame.
func TestMakeTooLong(t *testing.T) {
	if frame.Most != 1<<20 {
		t.Errorf("Most is %d", frame.Most)
	}
	for _, n := range []int{1<<20 + 1, 1<<20 + 2, 1 << 21, 1 << 24} {
		if got, ok := frame.Make(make([]byte, n)); ok || len(got) != 0 {
			t.Errorf("a record of %d bytes: %d bytes, %v", n, len(got), ok)
		}
	}
}

// P6.1: Join and Size, for several records, one, and none.
func TestJoin(t *testing.T) {
	if got, ok := frame.Join(); !ok || len(got) != 0 {
		t.Errorf("no records: %v, %v", got, ok)
	}
	if got := frame.Size(); got != 0 {
		t.Errorf("no records: size %d", got)
	}
	for _, records := range lists() {
		want := slowFrames(records)
		if got, ok := frame.Join(records...); !ok || !bytes.Equal(got, want) {
			t.Errorf("Join(%v) = %v, %v, want %v", records, got, ok, want)
		}
		if got := frame.Size(records...); got != len(want) {
			t.Errorf("Size(%v) = %d, want %d", records, got, len(want))
		}
	}
}

// P6.1: Join of records of the greatest length, and with one that is too long at any place.
func TestJoinLong(t *testing.T) {
	most, long := make([]byte, frame.Most), make([]byte, frame.Most+1)
	got, ok := frame.Join(most, []byte{1}, most)
	if want := slowFrames([][]byte{most, {1}, most}); !ok || !bytes.Equal(got, want) {
		t.Errorf("the greatest records: %d bytes, %v", len(got), ok)
	}
	for i, records := range [][][]byte{
		{long},
		{long, {1}, {2}},
		{{1}, long, {2}},
		{{1}, nil, long},
		{most, long},
		{long, long},
	} {
		if got, ok := frame.Join(records...); ok || len(got) != 0 {
			t.Errorf("list %d: %d bytes, %v", i, len(got), ok)
		}
	}
}

// P6.1: Size counts all bytes of records, whatever their length.
func TestSizeLong(t *testing.T) {
	if got := frame.Size(make([]byte, 1<<20)); got != 1<<20+8 {
		t.Errorf("a record of the greatest length: %d", got)
	}
	if got := frame.Size(make([]byte, 1<<20+1), nil, []byte{1, 2}); got != 1<<20+1+2+3*8 {
		t.Errorf("a record that is too long, and others: %d", got)
	}
}

// P6.2: Next returns a record and the size of its frame, whatever follows.
func TestNext(t *testing.T) {
	r := newRandom()
	lengths := []int{frame.Most - 1, frame.Most}
	for n := range 300 {
		lengths = append(lengths, n)
	}
	for _, n := range lengths {
		record := randomBytes(r, n)
		b := slowFrame(record)
		for _, tail := range [][]byte{nil, {9}, {9, 9}, b, slowFrame(nil), randomBytes(r, 20)} {
			got, size := frame.Next(append(bytes.Clone(b), tail...))
			if !bytes.Equal(got, record) || size != n+8 {
				t.Errorf("%d bytes, and %d behind the frame: %d bytes, size %d", n, len(tail), len(got), size)
			}
		}
	}
}

// P6.2: bytes that begin with no frame give nothing.
func TestNextNone(t *testing.T) {
	for name, tail := range tails() {
		if got, size := frame.Next(tail); len(got) != 0 || size != 0 {
			t.Errorf("%s: Next gives %d bytes, size %d", name, len(got), size)
		}
		if got, size := frame.Split(tail); len(got) != 0 || size != 0 {
			t.Errorf("%s: Split gives %d records, size %d", name, len(got), size)
		}
	}
}

// P6.2: a frame is not found behind other bytes.
func TestNextBehind(t *testing.T) {
	b := slowFrame([]byte("abc"))
	for _, front := range [][]byte{{0}, {9}, {0, 0, 0, 0}, slowFrame([]byte("x"))[:8]} {
		whole := append(bytes.Clone(front), b...)
		if got, size := frame.Next(whole); len(got) != 0 || size != 0 {
			t.Errorf("Next(%v) = %v, %d", whole, got, size)
		}
		if got, size := frame.Split(whole); len(got) != 0 || size != 0 {
			t.Errorf("Split(%v) = %v, %d", whole, got, size)
		}
	}
}

// P6.2: a changed byte is told, in the number, in the record and in the checksum.
func TestNextChanged(t *testing.T) {
	for _, record := range []string{"", "a", "abcd", "\x00\x00\x00\x00\x00\x00\x00\x00", "a longer record"} {
		b := slowFrame([]byte(record))
		for i := range b {
			for change := 1; change < 256; change++ {
				c := bytes.Clone(b)
				c[i] ^= byte(change)
				if got, size := frame.Next(c); len(got) != 0 || size != 0 {
					t.Errorf("%q, byte %d changed by %d: %v, %d", record, i, change, got, size)
				}
				c = append(c, b...)
				if got, size := frame.Split(c); len(got) != 0 || size != 0 {
					t.Errorf("%q, byte %d changed by %d, and a frame: %v, %d", record, i, change, got, size)
				}
			}
		}
	}
}

// P6.2: the definition, for bytes in which many frames are broken.
func TestSplitDefinition(t *testing.T) {
	r := newRandom()
	for range 3000 {
		var b []byte
		for range r.IntN(5) {
			one := slowFrame(randomBytes(r, r.IntN(4)))
			switch r.IntN(8) {
			case 0:
				one[r.IntN(len(one))] ^= byte(1 + r.IntN(255))
			case 1:
				one = one[:r.IntN(len(one))]
			case 2:
				one = numbered(uint32(r.IntN(6)), randomBytes(r, r.IntN(6)))
			}
			b = append(b, one...)
		}
		want, wantSize := slowSplit(b)
		if got, size := frame.Split(b); !equal(got, want) || size != wantSize {
			t.Errorf("Split(%v) = %v, %d, want %v, %d", b, got, size, want, wantSize)
		}
		var first []byte
		wantSize = 0
		if len(want) > 0 {
			first, wantSize = want[0], len(want[0])+8
		}
		if got, size := frame.Next(b); !bytes.Equal(got, first) || size != wantSize {
			t.Errorf("Next(%v) = %v, %d, want %v, %d", b, got, size, first, wantSize)
		}
	}
}

// P6.2: Split of no bytes.
func TestSplitNothing(t *testing.T) {
	for _, b := range [][]byte{nil, {}} {
		if got, size := frame.Split(b); len(got) != 0 || size != 0 {
			t.Errorf("%v, %d", got, size)
		}
	}
}

// P6.3: Split inverts Join.
func TestSplitInvertsJoin(t *testing.T) {
	r := newRandom()
	all := append(lists(), [][]byte{randomBytes(r, frame.Most), nil, randomBytes(r, frame.Most-1)}, make([][]byte, 5000))
	for i, records := range all {
		b, ok := frame.Join(records...)
		if got, size := frame.Split(b); !ok || !equal(got, records) || size != len(b) {
			t.Errorf("list %d: %d records of %d, size %d of %d, %v", i, len(got), len(records), size, len(b), ok)
		}
	}
}

// P6.3: of each beginning of some frames, Split returns the records whose frames are complete.
func TestSplitBeginnings(t *testing.T) {
	for _, records := range lists() {
		b := slowFrames(records)
		complete, size := 0, 0
		for n := range len(b) + 1 {
			for complete < len(records) && size+len(records[complete])+8 <= n {
				size += len(records[complete]) + 8
				complete++
			}
			if got, k := frame.Split(b[:n]); !equal(got, records[:complete]) || k != size {
				t.Errorf("%d bytes of %v: %v, %d, want %d records, %d", n, b, got, k, complete, size)
			}
		}
		if complete != len(records) {
			t.Errorf("%d records of %d", complete, len(records))
		}
	}
}

// P6.3: what follows the frames changes no record in front of it.
func TestSplitTails(t *testing.T) {
	for _, records := range lists() {
		b := slowFrames(records)
		for name, tail := range tails() {
			got, size := frame.Split(append(bytes.Clone(b), tail...))
			if !equal(got, records) || size != len(b) {
				t.Errorf("%v, and %s: %d records, size %d, want %d", records, name, len(got), size, len(b))
			}
		}
		more := append(bytes.Clone(b), slowFrames([][]byte{{5}, nil})...)
		if got, size := frame.Split(more); !equal(got, append(records[:len(records):len(records)], []byte{5}, nil)) || size != len(more) {
			t.Errorf("%v, and two frames: %v, %d", records, got, size)
		}
	}
}

// P6.3: a changed byte leaves the records in front of its frame, and hides those from there on.
func TestSplitChanged(t *testing.T) {
	records := [][]byte{{1, 2, 3}, nil, []byte("abcdef"), {4}}
	b := slowFrames(records)
	index, start := 0, 0
	for i := range b {
		if i == start+len(records[index])+8 {
			index, start = index+1, i
		}
		for change := 1; change < 256; change++ {
			c := bytes.Clone(b)
			c[i] ^= byte(change)
			if got, size := frame.Split(c); !equal(got, records[:index]) || size != start {
				t.Errorf("byte %d changed by %d: %v, %d, want %d records, %d", i, change, got, size, index, start)
			}
		}
	}
}

// Rule 4: nothing is read or written behind the length of an argument, and arguments stay as they are.
func TestArguments(t *testing.T) {
	whole := []byte("abcdef, and what follows")
	before := bytes.Clone(whole)
	list := [][]byte{whole[:3], whole[3:6], whole[6:6]}
	frame.Make(whole[:3])
	frame.Join(list...)
	frame.Size(list...)
	if !bytes.Equal(whole, before) || len(list[0]) != 3 || len(list[1]) != 3 || len(list[2]) != 0 {
		t.Fatalf("arguments became %q, %q", whole, list)
	}

	b := slowFrames([][]byte{[]byte("abc"), []byte("def")})
	before = bytes.Clone(b)
	if got, size := frame.Next(b[:10]); len(got) != 0 || size != 0 {
		t.Errorf("Next reads behind its argument: %q, %d", got, size)
	}
	if got, size := frame.Split(b[:21]); len(got) != 1 || size != 11 {
		t.Errorf("Split reads behind its argument: %q, %d", got, size)
	}
	frame.Next(b)
	frame.Split(b)
	if !bytes.Equal(b, before) {
		t.Errorf("arguments became %q", b)
	}
}

// grow writes to all bytes of b, and behind them.
func grow(b []byte) {
	for i := range b {
		b[i] = '!'
	}
	_ = append(b, "!!!!!!!!!!!!"...)
}

// Rule 4: results share no memory with arguments or with each other.
func TestResults(t *testing.T) {
	record := []byte("abc")
	want := slowFrame(record)
	one, _ := frame.Make(record)
	two, _ := frame.Make(record)
	grow(one)
	if !bytes.Equal(two, want) || string(record) != "abc" {
		t.Error("results of Make share memory")
	}
	one, _ = frame.Join(record)
	two, _ = frame.Join(record)
	grow(one)
	if !bytes.Equal(two, want) || string(record) != "abc" {
		t.Error("results of Join share memory")
	}

	b := slowFrames([][]byte{record, []byte("def"), nil})
	before := bytes.Clone(b)
	one, _ = frame.Next(b)
	two, _ = frame.Next(b)
	grow(one)
	if string(two) != "abc" || !bytes.Equal(b, before) {
		t.Error("results of Next share memory")
	}
	first, _ := frame.Split(b)
	second, _ := frame.Split(b)
	for i := range first {
		grow(first[i])
		if i == 0 && string(first[1]) != "def" {
			t.Error("records of a result of Split share memory")
		}
	}
	if !equal(second, [][]byte{record, []byte("def"), nil}) || !bytes.Equal(b, before) {
		t.Error("results of Split share memory")
	}
	grow(b)
	if !equal(second, [][]byte{record, []byte("def"), nil}) || string(two) != "abc" {
		t.Error("records change with the argument")
	}
}
