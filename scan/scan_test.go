package scan_test

import (
	"bytes"
	"fmt"
	"hash/crc32"
	"math"
	"slices"
	"testing"

	"clockwork/api"
	"clockwork/disk"
	"clockwork/scan"
	"clockwork/wal"
)

// last is the greatest number of a segment.
const last = 99999999

// mark is the frame of a mark.
const mark = "\x00\x00\x00\x00\xC7\x4B\x67\x48"

// name returns the name of a segment.
func name(n int) string { return fmt.Sprintf("log-%08d", n) }

// frames returns the frames of records, as chapter 6 says them.
func frames(records ...string) string {
	var all []byte
	for _, r := range records {
		n := len(r)
		b := append([]byte{byte(n), byte(n >> 8), byte(n >> 16), byte(n >> 24)}, r...)
		c := crc32.Checksum(b, crc32.MakeTable(crc32.Castagnoli))
		all = append(append(all, b...), byte(c), byte(c>>8), byte(c>>16), byte(c>>24))
	}
	return string(all)
}

// must fails the test unless every code is api.OK.
func must(t *testing.T, codes ...api.Code) {
	t.Helper()
	for i, code := range codes {
		if code != api.OK {
			t.Fatalf("call %d returned %v", i, code)
		}
	}
}

// with returns a disk with files, which are given as names and bytes in turn, and are durable.
func with(t *testing.T, room int, files ...string) *disk.Disk {
	t.Helper()
	d := disk.New(room)
	for i := 0; i < len(files); i += 2 {
		must(t, d.Create(files[i]), d.Append(files[i], []byte(files[i+1])), d.Sync(files[i]))
	}
	return d
}

// files returns the names and the bytes of the files of a disk that is up, in turn.
func files(t *testing.T, d *disk.Disk) []string {
	t.Helper()
	var all []string
	for _, file := range d.List() {
		b, code := d.Read(file)
		must(t, code)
		all = append(all, file, string(b))
	}
	return all
}

// holds fails the test unless a disk that is up has exactly these files.
func holds(t *testing.T, d *disk.Disk, want ...string) {
	t.Helper()
	if got := files(t, d); !slices.Equal(got, want) {
		t.Errorf("the disk has %q, want %q", got, want)
	}
}

// texts returns records as texts.
func texts(records [][]byte) []string {
	var l []string
	for _, r := range records {
		l = append(l, string(r))
	}
	return l
}

// look returns the records of the log on a disk.
func look(t *testing.T, d *disk.Disk) [][]byte {
	t.Helper()
	records, code := scan.Look(d)
	must(t, code)
	return records
}

// looks fails the test unless the log on a disk has these records, and some bytes of it are torn.
func looks(t *testing.T, d *disk.Disk, torn int, want ...string) {
	t.Helper()
	records, code := scan.Look(d)
	if code != api.OK || !slices.Equal(texts(records), want) {
		t.Errorf("Look returned %q and %v, want %q", records, code, want)
	}
	if n := scan.Torn(d); n != torn {
		t.Errorf("%d bytes are torn, want %d", n, torn)
	}
}

// opens fails the test unless a disk is opened with these records, and the log goes on in a segment.
func opens(t *testing.T, d *disk.Disk, most, n, size int, want ...string) *wal.Log {
	t.Helper()
	l, records, code := scan.Open(d, most)
	if code != api.OK || l == nil || !slices.Equal(texts(records), want) {
		t.Fatalf("Open returned %v, %q and %v, want %q", l, records, code, want)
	}
	if l.Segment() != n || l.Size() != size || l.Waiting() != 0 {
		t.Errorf("segment %d, %d bytes, %d waiting; want %d, %d, 0", l.Segment(), l.Size(), l.Waiting(), n, size)
	}
	return l
}

// fails fails the test unless Look and Open return a code and nothing else, and nothing is torn.
func fails(t *testing.T, d *disk.Disk, want api.Code) {
	t.Helper()
	if records, code := scan.Look(d); code != want || len(records) != 0 {
		t.Errorf("Look returned %q and %v, want %v", records, code, want)
	}
	if n := scan.Torn(d); n != 0 {
		t.Errorf("%d bytes are torn, want 0", n)
	}
	openFails(t, d, want)
}

// openFails fails the test unless Open returns a code and nothing else.
func openFails(t *testing.T, d *disk.Disk, want api.Code) {
	t.Helper()
	if l, records, code := scan.Open(d, 100); code != want || l != nil || len(records) != 0 {
		t.Errorf("Open returned %v, %q and %v, want %v", l, records, code, want)
	}
}

// broken fails the test unless the log on a disk with some files is broken, and nothing changes it.
func broken(t *testing.T, all ...string) {
	t.Helper()
	d := with(t, 10000, all...)
	want := files(t, d)
	d.Arm(1)
	fails(t, d, api.ErrBroken)
	if d.Down() {
		t.Errorf("a broken log was changed")
	}
	holds(t, d, want...)
}

// P9.1, P9.2: the example of the chapter: a disk without files.
func TestNoFiles(t *testing.T) {
	d := disk.New(100)
	looks(t, d, 0)
	holds(t, d)
	opens(t, d, 50, 1, 0)
	holds(t, d, name(1), "")
	looks(t, d, 0)
	opens(t, d, 50, 1, 0)
	holds(t, d, name(1), "")
}

// P9.1, P9.2: files that are no segments do not matter, and are left alone.
func TestNoSegments(t *testing.T) {
	others := []string{
		"log-0000001", frames("a"), "log-00000000", frames("b"), "log-000000001", frames("c"), "log-00000001.old",
		frames("", "d"), "log-0000000a", "xyz", "log-100000000", frames("e"), "log.00000001", frames("f"), "zog-00000001",
		frames(""), "cut-", "x", "newer", "y", "0", "",
	}
	d := with(t, 1000, others...)
	want := files(t, d)
	looks(t, d, 0)
	holds(t, d, want...)
	opens(t, d, 50, 1, 0)
	if b, code := d.Read(name(1)); code != api.OK || len(b) != 0 {
		t.Errorf("the segment has %q and the code %v", b, code)
	}
	must(t, d.Remove(name(1)))
	holds(t, d, want...)

	d = with(t, 1000, append(others, name(4), frames("g")+"tt")...)
	looks(t, d, 2, "g")
	opens(t, d, 50, 4, 9, "g")
	must(t, d.Remove(name(4)))
	holds(t, d, want...)
}

// P9.1, P9.2: one segment, with some records and with none.
func TestOneSegment(t *testing.T) {
	for _, n := range []int{1, 2, 7, 12345678, last - 1, last} {
		for _, records := range [][]string{nil, {"a"}, {"ab", "c", "def"}, {"\x00", "\x00\x00\x00\x00", mark}} {
			b := frames(records...)
			d := with(t, 1000, name(n), b)
			looks(t, d, 0, records...)
			opens(t, d, 50, n, len(b), records...)
			holds(t, d, name(n), b)
		}
	}
}

// P9.1: the records of several segments, in order; some of the segments have no bytes.
func TestSeveralSegments(t *testing.T) {
	d := with(t, 1000, name(9), frames("a", "bc"), name(10), "", name(11), frames("d"), name(12), frames("ef", "g", "h"))
	looks(t, d, 0, "a", "bc", "d", "ef", "g", "h")
	opens(t, d, 50, 12, 28, "a", "bc", "d", "ef", "g", "h")
	d = with(t, 1000, name(last-2), frames("a"), name(last-1), frames("b"), name(last), "")
	looks(t, d, 0, "a", "b")
	opens(t, d, 50, last, 0, "a", "b")
	d = with(t, 1000, name(1), "", name(2), "", name(3), "")
	looks(t, d, 0)
	opens(t, d, 50, 3, 0)
	holds(t, d, name(1), "", name(2), "", name(3), "")

	// Hundreds of segments.
	var all, want []string
	for n := 800; n > 0; n-- {
		all = append(all, name(n), frames(fmt.Sprint(n), "x"))
	}
	for n := 1; n <= 800; n++ {
		want = append(want, fmt.Sprint(n), "x")
	}
	d = with(t, 100000, all...)
	looks(t, d, 0, want...)
	opens(t, d, 50, 800, 20, want...)
}

// P9.1: long records are found whole.
func TestLongRecords(t *testing.T) {
	long, longer := string(bytes.Repeat([]byte("ab"), 1<<18)), string(bytes.Repeat([]byte{0}, 1<<20))
	d := with(t, 4<<20, name(3), frames(long, "x"), name(4), frames(longer)+"\x01")
	looks(t, d, 1, long, "x", longer)
	opens(t, d, 50, 4, 1<<20+8, long, "x", longer)
}

// P9.1, P9.2: invalid input: a nil disk.
func TestNilDisk(t *testing.T) {
	fails(t, nil, api.ErrNil)
	if l, _, code := scan.Open(nil, math.MinInt); l != nil || code != api.ErrNil {
		t.Errorf("Open returned %v and %v", l, code)
	}
}

// P9.1, P9.2: invalid input: a disk that is down, whatever is on it; and nothing changes it.
func TestDown(t *testing.T) {
	for _, all := range [][]string{
		nil,
		{"cut", "x", "new", "y"},
		{name(1), ""},
		{name(1), frames("a")},
		{name(1), frames("a") + "tt"},
		{name(1), frames("a"), name(3), frames("b")},
		{name(1), frames("a"), name(2), frames("", "b")},
	} {
		d := with(t, 1000, all...)
		want := files(t, d)
		d.Arm(1)
		d.Remove("other")
		fails(t, d, api.ErrDown)
		if !d.Down() {
			t.Error("the disk is not down")
		}
		d.Crash()
		holds(t, d, want...)
	}
}

// P9.1: Look and Torn change nothing, neither the files nor how much of them is durable nor what is planned.
func TestLookChangesNothing(t *testing.T) {
	for _, all := range [][]string{
		{},
		{"cut", "x", "new", "y", "other", "z"},
		{"cut", frames("a"), name(1), frames("a") + "tt", "new", frames("", "a")},
		{name(1), frames("a"), name(2), frames("", "b"), name(3), "torn"},
		{name(1), frames("a"), name(3), frames("b") + "tt"},
	} {
		d := with(t, 1000, all...)
		want := files(t, d)
		for _, file := range d.List() {
			must(t, d.Append(file, []byte{1, 2, 3}))
		}
		now := files(t, d)
		d.Arm(1)
		for range 3 {
			scan.Look(d)
			scan.Torn(d)
		}
		holds(t, d, now...)
		if d.Down() || d.Create("one") != api.ErrDown {
			t.Error("the planned change was made")
		}
		d.Crash()
		holds(t, d, want...)
	}
}

// Rule 4: a result shares no memory with the disk, or with another result, nor do the records of one result.
func TestMemory(t *testing.T) {
	d := with(t, 1000, name(1), frames("abc", "def"), name(2), frames("ghi", "jkl"))
	want := files(t, d)
	one, _ := scan.Look(d)
	two, _ := scan.Look(d)
	_, three, _ := scan.Open(d, 100)
	for i, r := range one {
		one[i] = append(r, "more"...)
		clear(r)
	}
	for _, records := range [][][]byte{two, three} {
		if !slices.Equal(texts(records), []string{"abc", "def", "ghi", "jkl"}) {
			t.Errorf("the records changed to %q", records)
		}
	}
	if !slices.Equal(texts(one), []string{"abcmore", "defmore", "ghimore", "jklmore"}) {
		t.Errorf("the records share memory: %q", one)
	}
	holds(t, d, want...)
}

// P2: disks that were created separately are independent of each other.
func TestIndependent(t *testing.T) {
	d := with(t, 1000, name(1), frames("a"))
	e := with(t, 1000, name(4), frames("", "b")+"t")
	l := opens(t, d, 100, 1, 9, "a")
	m := opens(t, e, 100, 4, 17, "b")
	must(t, l.Put([]byte("c")), m.Put([]byte("d")), m.Sync())
	d.Crash()
	e.Crash()
	looks(t, d, 0, "a")
	looks(t, e, 0, "b", "d")
}
