package trim_test

import (
	"fmt"
	"hash/crc32"
	"slices"
	"strings"
	"testing"

	"clockwork/api"
	"clockwork/disk"
	"clockwork/scan"
	"clockwork/trim"
	"clockwork/wal"
)

const (
	last = 99999999 // the greatest number of a segment
	long = 1 << 20  // bytes of the longest record
)

// mark is the frame of a mark.
const mark = "\x00\x00\x00\x00\xC7\x4B\x67\x48"

// name returns the name of a segment.
func name(n int) string { return fmt.Sprintf("log-%08d", n) }

// frames returns the frames of records, as chapter 6 says them.
func frames(records ...string) string {
	var all []byte
	for _, r := range records {
		n := len(r)
		b := append([]byte{byte(n), byte(n >> 8), byte(n >> 16), byte(n >> 24)}, r...)
		c := crc32.Checksum(b, crc32.MakeTable(crc32.Castagnoli))
		all = append(append(all, b...), byte(c), byte(c>>8), byte(c>>16), byte(c>>24))
	}
	return string(all)
}

// must fails the test unless every code is api.OK.
func must(t *testing.T, codes ...api.Code) {
	t.Helper()
	for i, code := range codes {
		if code != api.OK {
			t.Fatalf("call %d returned %v", i, code)
		}
	}
}

// with returns a disk with files, which are given as names and bytes in turn, and are durable.
func with(t *testing.T, room int, files ...string) *disk.Disk {
	t.Helper()
	d := disk.New(room)
	for i := 0; i < len(files); i += 2 {
		must(t, d.Create(files[i]), d.Append(files[i], []byte(files[i+1])), d.Sync(files[i]))
	}
	return d
}

// files returns the names and the bytes of the files of a disk that is up, in turn.
func files(t *testing.T, d *disk.Disk) []string {
	t.Helper()
	var all []string
	for _, file := range d.List() {
		b, code := d.Read(file)
		must(t, code)
		all = append(all, file, string(b))
	}
	return all
}

// holds fails the test unless a disk that is up has exactly these files.
func holds(t *testing.T, d *disk.Disk, want ...string) {
	t.Helper()
	if got := files(t, d); !slices.Equal(got, want) {
		t.Errorf("the disk has %q, want %q", got, want)
	}
}

// bytesOf returns texts as records.
func bytesOf(texts ...string) [][]byte {
	var l [][]byte
	for _, s := range texts {
		l = append(l, []byte(s))
	}
	return l
}

// texts returns records as texts.
func texts(records [][]byte) []string {
	var l []string
	for _, r := range records {
		l = append(l, string(r))
	}
	return l
}

// look returns the records of the log on a disk.
func look(t *testing.T, d *disk.Disk) []string {
	t.Helper()
	records, code := scan.Look(d)
	must(t, code)
	return texts(records)
}

// looks fails the test unless the log on a disk has these records.
func looks(t *testing.T, d *disk.Disk, want ...string) {
	t.Helper()
	if got, code := scan.Look(d); code != api.OK || !slices.Equal(texts(got), want) {
		t.Errorf("the log has %q and the code %v, want %q", got, code, want)
	}
}

// open opens the log on a disk.
func open(t *testing.T, d *disk.Disk, most int) *wal.Log {
	t.Helper()
	l, _, code := scan.Open(d, most)
	must(t, code)
	return l
}

// put puts records into a log.
func put(t *testing.T, l *wal.Log, records ...string) {
	t.Helper()
	for _, r := range records {
		must(t, l.Put([]byte(r)))
	}
}

// logged returns a disk, and a log on it with records in segments of 20 bytes at most, which are durable.
func logged(t *testing.T, room int, records ...string) (*disk.Disk, *wal.Log) {
	t.Helper()
	d := disk.New(room)
	l := open(t, d, 20)
	put(t, l, records...)
	must(t, l.Sync())
	return d, l
}

// isAt fails the test unless a log goes on in a segment, behind some bytes, and no records wait.
func isAt(t *testing.T, l *wal.Log, n, size int) {
	t.Helper()
	if l == nil || l.Segment() != n || l.Size() != size || l.Waiting() != 0 {
		t.Fatalf("the log is at segment %d, %d bytes, %d waiting; want %d, %d, 0",
			l.Segment(), l.Size(), l.Waiting(), n, size)
	}
}

// compacts compacts a log, and fails the test unless it has exactly these records then.
func compacts(t *testing.T, d *disk.Disk, l *wal.Log, most int, records ...string) *wal.Log {
	t.Helper()
	n := l.Segment() + 1
	m, code := trim.Compact(d, l, most, bytesOf(records...)...)
	if code != api.OK {
		t.Fatalf("Compact returned %v and %v", m, code)
	}
	isAt(t, m, n, len(mark+frames(records...)))
	looks(t, d, records...)
	return m
}

// fails fails the test unless a log cannot be compacted, and Compact returns a code and no log.
func fails(t *testing.T, d *disk.Disk, l *wal.Log, want api.Code, records ...string) {
	t.Helper()
	if m, code := trim.Compact(d, l, 100, bytesOf(records...)...); m != nil || code != want {
		t.Errorf("Compact returned %v and %v, want %v", m, code, want)
	}
}

// refuses fails the test unless a log cannot be compacted, and nothing is tried to change the disk, nor the log.
func refuses(t *testing.T, d *disk.Disk, l *wal.Log, want api.Code, records ...string) {
	t.Helper()
	before := files(t, d)
	n, size, waiting := l.Segment(), l.Size(), l.Waiting()
	d.Arm(1)
	fails(t, d, l, want, records...)
	if d.Down() {
		t.Error("the disk was changed")
	}
	d.Arm(0)
	holds(t, d, before...)
	if l.Segment() != n || l.Size() != size || l.Waiting() != waiting {
		t.Error("the log was changed")
	}
}

// P10.1, P10.3: the example of the chapter: without records, one segment with 8 bytes is left.
func TestExample(t *testing.T) {
	d, l := logged(t, 1000, "first", "second")
	holds(t, d, name(1), frames("first"), name(2), frames("second"))
	isAt(t, compacts(t, d, l, 20), 3, 8)
	holds(t, d, name(3), mark)
	if d.Used() != 8 {
		t.Errorf("%d bytes are used", d.Used())
	}
}

// P10.1: logs with no segment, one and several of them in front of the current one, and some records.
func TestCompact(t *testing.T) {
	for _, before := range [][]string{nil, {"a"}, {"a", "b", "c", "d"}, {"1234567890", "1234567890", "1234567890", "x"}} {
		for _, after := range [][]string{
			nil, {"a"}, {"\x00"}, {"ab", "c", "def"}, {"d", "c", "b", "a"}, {"a", "a"}, {mark, "\x00\x00\x00\x00"},
			{strings.Repeat("more bytes than the greatest size of segments ", 20), "x"},
		} {
			d, l := logged(t, 3000, before...)
			n := l.Segment() + 1
			compacts(t, d, l, 20, after...)
			holds(t, d, name(n), mark+frames(after...))
			d.Crash()
			holds(t, d, name(n), mark+frames(after...))
			isAt(t, open(t, d, 20), n, 8+len(frames(after...)))
			looks(t, d, after...)
		}
	}
}

// P10.1: the log that is compacted has just been opened: it has been cut, or older segments have been removed.
func TestCompactOpened(t *testing.T) {
	d := with(t, 1000, "cut", "x", name(7), frames("a", "b"), name(8), frames("c")+"torn", "new", "y")
	compacts(t, d, open(t, d, 100), 100, "c", "d")
	holds(t, d, name(9), frames("", "c", "d"))

	d = with(t, 1000, name(2), frames("a"), name(4), frames("", "b"), name(5), "")
	compacts(t, d, open(t, d, 100), 100, "e")
	holds(t, d, name(6), frames("", "e"))

	d = with(t, 1000, name(last-2), frames("a"))
	compacts(t, d, open(t, d, 100), 100, "e")
	holds(t, d, name(last-1), frames("", "e"))
}

// P10.1: hundreds of segments are removed.
func TestManySegments(t *testing.T) {
	var records []string
	for i := range 300 {
		records = append(records, fmt.Sprint("record ", i))
	}
	d, l := logged(t, 100000, records...)
	isAt(t, l, 300, 18)
	compacts(t, d, l, 100, records[100:]...)
	holds(t, d, name(301), mark+frames(records[100:]...))
}

// P10.1: a record of the greatest length, and one that is longer by a byte.
func TestLongRecords(t *testing.T) {
	d, l := logged(t, 5*long, "a")
	longest := strings.Repeat("x", long)
	refuses(t, d, l, api.ErrLong, longest+"x")
	refuses(t, d, l, api.ErrLong, "a", longest, longest+"x", "b")
	compacts(t, d, l, 20, "a", longest, "b", longest)
	holds(t, d, name(2), frames("", "a", longest, "b", longest))
}

// P10.1: invalid input: no disk or no log.
func TestNil(t *testing.T) {
	d, l := logged(t, 1000, "a")
	all := files(t, d)
	tooLong := strings.Repeat("x", long+1)
	d.Arm(1)
	for _, records := range [][]string{nil, {"a"}, {""}, {tooLong}} {
		fails(t, nil, nil, api.ErrNil, records...)
		fails(t, nil, l, api.ErrNil, records...)
		fails(t, d, nil, api.ErrNil, records...)
		fails(t, nil, wal.New(nil, 20, last, 0), api.ErrNil, records...)
	}
	if d.Down() {
		t.Error("the disk was changed")
	}
	holds(t, d, all...)
}

// P10.1: invalid input: a record without bytes, at any place.
func TestEmptyRecord(t *testing.T) {
	d, l := logged(t, 1000, "a", "b", "c")
	put(t, l, "waits")
	for _, records := range [][]string{{""}, {"", "a"}, {"a", ""}, {"a", "", "b"}, {"", ""}} {
		refuses(t, d, l, api.ErrRange, records...)
	}
	if m, code := trim.Compact(d, l, 20, nil); m != nil || code != api.ErrRange {
		t.Errorf("Compact of a nil record returned %v and %v", m, code)
	}
	compacts(t, d, l, 20)
}

// P10.1: there is no segment behind the last possible one.
func TestLastSegment(t *testing.T) {
	d := with(t, 1000, name(last-1), frames("a"))
	l := compacts(t, d, open(t, d, 20), 40, "b")
	holds(t, d, name(last), frames("", "b"))
	refuses(t, d, l, api.ErrRange)
	refuses(t, d, l, api.ErrRange, "c")
	d.Crash()
	looks(t, d, "b")
	refuses(t, d, open(t, d, 20), api.ErrRange, "c")
	put(t, l, "c")
	looks(t, d, "b", "c")
}

// P10.1: the order of the codes, where several apply.
func TestOrderOfCodes(t *testing.T) {
	tooLong := strings.Repeat("x", long+1)
	d, l := logged(t, 30, "a", "b")
	refuses(t, d, l, api.ErrRange, "", tooLong)
	refuses(t, d, l, api.ErrRange, tooLong, "")
	refuses(t, d, l, api.ErrLong, tooLong, strings.Repeat("no room", 20))

	e := with(t, 1000, name(last), frames("a"))
	m := open(t, e, 20)
	refuses(t, e, m, api.ErrRange, tooLong)
	refuses(t, e, m, api.ErrRange, strings.Repeat("no room", 20))

	for _, down := range []*disk.Disk{d, e} {
		down.Arm(1)
		down.Remove("other")
	}
	fails(t, d, l, api.ErrRange, "", tooLong)
	fails(t, d, l, api.ErrLong, tooLong)
	fails(t, d, l, api.ErrDown, strings.Repeat("no room", 20))
	fails(t, e, m, api.ErrRange, tooLong)
}

// P10.1: a disk that is down, with and without a file with the name new.
func TestDown(t *testing.T) {
	for _, fresh := range [][]string{nil, {"new", "x"}} {
		d := with(t, 1000, name(1), frames("a"), name(2), frames("b"))
		l := open(t, d, 20)
		for i := 0; i < len(fresh); i += 2 {
			must(t, d.Create(fresh[i]), d.Append(fresh[i], []byte(fresh[i+1])), d.Sync(fresh[i]))
		}
		all := files(t, d)
		d.Arm(1)
		d.Remove("other")
		for range 3 {
			fails(t, d, l, api.ErrDown, "c")
		}
		if !d.Down() {
			t.Error("the disk is not down")
		}
		d.Crash()
		holds(t, d, all...)
	}
}

// P10.1: the new log goes on in the new segment, with its own greatest size.
func TestGoOn(t *testing.T) {
	d, l := logged(t, 1000, "a", "bc", "d")
	l = compacts(t, d, l, 28, "d")
	put(t, l, "efg", "h")
	must(t, l.Sync())
	holds(t, d, name(3), frames("", "d", "efg"), name(4), frames("h"))
	d.Crash()
	looks(t, d, "d", "efg", "h")

	// The new segment may have more bytes than the greatest size, and then no record is added to it.
	l = compacts(t, d, open(t, d, 18), 18, "h", "ij", "k")
	put(t, l, "l", "m")
	if code := l.Put([]byte("12345678901")); code != api.ErrLong {
		t.Errorf("Put returned %v", code)
	}
	must(t, l.Sync())
	holds(t, d, name(5), frames("", "h", "ij", "k"), name(6), frames("l", "m"))
	isAt(t, l, 6, 18)
	d.Crash()
	isAt(t, compacts(t, d, l, 9), 7, 8)
	holds(t, d, name(7), mark)
}

// P10.1, rule 5: every number is allowed as the greatest size.
func TestAnyGreatestSize(t *testing.T) {
	const least, most = -1 << 63, 1<<63 - 1
	for _, size := range []int{least, -1, 0, 1, 8, 9, 17, 18, 1000, most} {
		d, l := logged(t, 1000, "a", "b", "c")
		l = compacts(t, d, l, size, "bc", "de")
		want := api.OK
		if size < 9 {
			want = api.ErrLong
		}
		if code := l.Put([]byte("f")); code != want {
			t.Errorf("greatest size %d: Put returned %v", size, code)
		}
	}
}

// P10.1, P10.3: records that wait are replaced too, durable or not.
func TestWaiting(t *testing.T) {
	d, l := logged(t, 1000, "a", "b")
	put(t, l, "c", "d", "e")
	l = compacts(t, d, l, 100, "e", "f")
	d.Crash()
	looks(t, d, "e", "f")
	put(t, l, "g")
	compacts(t, d, l, 100, "h")
	d.Crash()
	looks(t, d, "h")
}

// P10.3: compacting again and again.
func TestAgain(t *testing.T) {
	d, l := logged(t, 1000, "a", "b", "c")
	for i := range 200 {
		want := []string{fmt.Sprint("kept ", i), "x"}
		l = compacts(t, d, l, 40, want...)
		d.Crash()
		looks(t, d, want...)
		put(t, l, "more", "and more", "and more than that", "and so on")
	}
}

// Rule 4: arguments are not modified, not read beyond their length, and may be modified afterwards.
func TestMemory(t *testing.T) {
	d, l := logged(t, 1000, "a", "b")
	text := []byte("abcdefghi")
	all := [][]byte{text[0:3], text[3:5], text[5:9], text[0:1]}
	records := all[:2]
	before := fmt.Sprintf("%q", all)
	l, code := trim.Compact(d, l, 100, records...)
	must(t, code)
	trim.Cost(records...)
	trim.Worth(d, records...)
	if got := fmt.Sprintf("%q", all); got != before {
		t.Errorf("the records were changed to %s", got)
	}
	clear(text)
	clear(all)
	looks(t, d, "abc", "de")
	put(t, l, "f")
	d.Crash(9)
	looks(t, d, "abc", "de", "f")
}

// P2: disks that were created separately are independent of each other, and so are their logs.
func TestIndependent(t *testing.T) {
	d, l := logged(t, 1000, "a", "b")
	e, m := logged(t, 1000, "c", "d", "e")
	l = compacts(t, d, l, 20, "x")
	looks(t, e, "c", "d", "e")
	m = compacts(t, e, m, 20, "y")
	put(t, l, "f")
	put(t, m, "g")
	must(t, m.Sync())
	d.Crash()
	e.Crash()
	looks(t, d, "x")
	looks(t, e, "y", "g")
}
