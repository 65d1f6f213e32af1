package wal_test

import (
	"bytes"
	"fmt"
	"hash/crc32"
	"math"
	"slices"
	"testing"

	"clockwork/api"
	"clockwork/disk"
	"clockwork/wal"
)

// last is the greatest number of a segment.
const last = 99999999

// name returns the name of a segment.
func name(n int) string { return fmt.Sprintf("log-%08d", n) }

// record returns a record with some bytes, all of them alike.
func record(size int, b byte) []byte { return bytes.Repeat([]byte{b}, size) }

// frames returns the frames of records, as chapter 6 says them.
func frames(records ...[]byte) string {
	var all []byte
	for _, r := range records {
		n := len(r)
		b := append([]byte{byte(n), byte(n >> 8), byte(n >> 16), byte(n >> 24)}, r...)
		c := crc32.Checksum(b, crc32.MakeTable(crc32.Castagnoli))
		all = append(append(all, b...), byte(c), byte(c>>8), byte(c>>16), byte(c>>24))
	}
	return string(all)
}

// must fails the test unless every code is api.OK.
func must(t *testing.T, codes ...api.Code) {
	t.Helper()
	for i, code := range codes {
		if code != api.OK {
			t.Fatalf("call %d returned %v", i, code)
		}
	}
}

// refused fails the test if a call returned another code than the one that is expected.
func refused(t *testing.T, got, want api.Code) {
	t.Helper()
	if got != want {
		t.Errorf("code %v, want %v", got, want)
	}
}

// at fails the test unless a log is at a place.
func at(t *testing.T, l *wal.Log, n, size, waiting int) {
	t.Helper()
	if l.Segment() != n || l.Size() != size || l.Waiting() != waiting {
		t.Errorf("segment %d, %d bytes, %d waiting; want %d, %d, %d", l.Segment(), l.Size(), l.Waiting(), n, size, waiting)
	}
}

// holds fails the test unless a disk that is up has exactly these files, which are given as names and bytes in turn.
func holds(t *testing.T, d *disk.Disk, want ...string) {
	t.Helper()
	var got []string
	for _, file := range d.List() {
		b, code := d.Read(file)
		if code != api.OK {
			t.Errorf("Read(%q) returned %v", file, code)
		}
		got = append(got, file, string(b))
	}
	if !slices.Equal(got, want) {
		t.Errorf("the disk has %q, want %q", got, want)
	}
}

// started returns a disk with room for some bytes, and a log in its segment 1, which has no bytes yet.
func started(t *testing.T, room, most int) (*disk.Disk, *wal.Log) {
	t.Helper()
	d := disk.New(room)
	must(t, d.Create(name(1)))
	return d, wal.New(d, most, 1, 0)
}

// begun returns a disk with a segment that has some bytes, which are durable, and a log there.
func begun(t *testing.T, room, most, n int, b string) (*disk.Disk, *wal.Log) {
	t.Helper()
	d := disk.New(room)
	must(t, d.Create(name(n)), d.Append(name(n), []byte(b)), d.Sync(name(n)))
	return d, wal.New(d, most, n, len(b))
}

// P8.1, P8.4: a new log is at the place that is given, and no records wait.
func TestNew(t *testing.T) {
	for _, n := range []int{1, 2, 7, 1000, last - 1, last} {
		for _, size := range []int{0, 1, 9, 100, 1 << 30} {
			for _, most := range []int{1, 9, 100, 1 << 30, math.MaxInt} {
				at(t, wal.New(disk.New(10), most, n, size), n, size, 0)
			}
		}
	}
}

// P8.1: New makes no change of the disk, planned ones neither.
func TestNewChangesNothing(t *testing.T) {
	d := disk.New(100)
	must(t, d.Create(name(3)), d.Append(name(3), []byte("abc")), d.Create("other"))
	d.Arm(1)
	at(t, wal.New(d, 20, 3, 3), 3, 3, 0)
	at(t, wal.New(d, 20, 4, 0), 4, 0, 0)
	holds(t, d, name(3), "abc", "other", "")
	if d.Down() {
		t.Error("the disk is down")
	}
	refused(t, d.Sync("other"), api.ErrDown)
}

// P8.1: a log goes on behind the bytes of the segment that it was given.
func TestNewGoesOn(t *testing.T) {
	one, two, three := record(3, 'a'), record(4, 'b'), record(1, 'c')
	d, l := begun(t, 1000, 32, 6, frames(one))
	must(t, l.Put(two))
	at(t, l, 6, 23, 1)
	must(t, l.Put(three))
	at(t, l, 6, 32, 2)
	must(t, l.Put(three))
	at(t, l, 7, 9, 1)
	holds(t, d, name(6), frames(one, two, three), name(7), frames(three))
}

// P8.1, rule 5: every number is allowed for New, and is the one that is answered.
func TestNewAnyNumbers(t *testing.T) {
	numbers := []int{math.MinInt, math.MinInt + 1, -1e9, -1, 0, 1, 8, 9, 10, 1e9, math.MaxInt - 1, math.MaxInt}
	for _, n := range numbers {
		for _, size := range numbers {
			for _, most := range numbers {
				d, log := started(t, 100, 0)
				l := wal.New(d, most, n, size)
				at(t, l, n, size, 0)
				l.Put([]byte{1})
				l.Put(record(20, 1))
				l.Sync()
				at(t, log, 1, 0, 0)
			}
		}
	}
}

// P8.2, P8.3: a log in what is the number of no segment has no file, so that nothing can be put into it.
func TestNoSegment(t *testing.T) {
	for _, n := range []int{math.MinInt, -last, -2, -1, 0, last + 1, last + 2, 1e9, math.MaxInt} {
		d := disk.New(1000)
		must(t, d.Create(name(1)), d.Create("other"))
		l := wal.New(d, 100, n, 0)
		refused(t, l.Put(nil), api.ErrRange)
		refused(t, l.Put(record(93, 1)), api.ErrLong)
		refused(t, l.Put([]byte{1}), api.ErrName)
		refused(t, l.Sync(), api.ErrName)
		at(t, l, n, 0, 0)
		full := wal.New(d, 100, n, 100)
		if code := full.Put([]byte{1}); code == api.OK {
			t.Errorf("Put of a log in the segment %d returned %v", n, code)
		}
		refused(t, full.Sync(), api.ErrName)
		at(t, full, n, 100, 0)
		holds(t, d, name(1), "", "other", "")
	}
}

// P8.2: greatest sizes that no frame has, 0 and negative ones among them, refuse all records.
func TestNoGreatestSize(t *testing.T) {
	for _, most := range []int{math.MinInt, math.MinInt + 1, -100, -9, -8, -1, 0, 1, 7, 8} {
		for _, size := range []int{0, 1, 50} {
			d, l := begun(t, 100, most, 5, string(record(size, 'x')))
			refused(t, l.Put(nil), api.ErrRange)
			refused(t, l.Put([]byte{}), api.ErrRange)
			refused(t, l.Put([]byte{1}), api.ErrLong)
			refused(t, l.Put(record(30, 1)), api.ErrLong)
			at(t, l, 5, size, 0)
			must(t, l.Sync())
			holds(t, d, name(5), string(record(size, 'x')))
		}
	}
}

// Nil logs return api.ErrNil or 0.
func TestNilLog(t *testing.T) {
	var l *wal.Log
	for _, r := range [][]byte{nil, {}, {1}, record(1<<20+1, 1)} {
		refused(t, l.Put(r), api.ErrNil)
	}
	refused(t, l.Sync(), api.ErrNil)
	at(t, l, 0, 0, 0)
}

// P8.2, P8.3: a log with a nil disk returns the code of this disk, after the codes that come first.
func TestNilDisk(t *testing.T) {
	for _, size := range []int{0, 5, 20} {
		l := wal.New(nil, 20, 4, size)
		refused(t, l.Put(nil), api.ErrRange)
		refused(t, l.Put(record(13, 1)), api.ErrLong)
		refused(t, l.Put(record(12, 1)), api.ErrNil)
		refused(t, l.Put(record(1, 1)), api.ErrNil)
		refused(t, l.Sync(), api.ErrNil)
		at(t, l, 4, size, 0)
	}
	l := wal.New(nil, 20, last, 20)
	refused(t, l.Put([]byte{1}), api.ErrRange)
	at(t, l, last, 20, 0)
}

// P8.4: the numbers of a log after each call.
func TestPlaces(t *testing.T) {
	_, l := started(t, 1000, 30)
	at(t, l, 1, 0, 0)
	must(t, l.Put(record(2, 1)))
	at(t, l, 1, 10, 1)
	must(t, l.Put(record(1, 1)))
	at(t, l, 1, 19, 2)
	must(t, l.Sync())
	at(t, l, 1, 19, 0)
	must(t, l.Put(record(3, 1)))
	at(t, l, 1, 30, 1)
	refused(t, l.Put(nil), api.ErrRange)
	refused(t, l.Put(record(23, 1)), api.ErrLong)
	at(t, l, 1, 30, 1)
	must(t, l.Put(record(22, 1)))
	at(t, l, 2, 30, 1)
	must(t, l.Put(record(1, 1)), l.Put(record(1, 1)), l.Put(record(1, 1)))
	at(t, l, 3, 27, 3)
	must(t, l.Put(record(1, 1)))
	at(t, l, 4, 9, 1)
	must(t, l.Sync(), l.Sync())
	at(t, l, 4, 9, 0)
}

// P2: logs of different disks are independent of each other; those of one disk share it, but not their places.
func TestIndependent(t *testing.T) {
	d, l := started(t, 100, 20)
	e, m := started(t, 100, 40)
	must(t, l.Put([]byte("a")), l.Put([]byte("bcde")), m.Put([]byte("fg")), m.Put([]byte("hi")), l.Sync())
	at(t, l, 2, 12, 0)
	at(t, m, 1, 20, 2)
	holds(t, d, name(1), frames([]byte("a")), name(2), frames([]byte("bcde")))
	holds(t, e, name(1), frames([]byte("fg"), []byte("hi")))
	d.Arm(1)
	refused(t, l.Sync(), api.ErrDown)
	must(t, m.Sync())

	d, l = started(t, 30, 30)
	must(t, d.Create(name(8)))
	m = wal.New(d, 30, 8, 0)
	must(t, l.Put([]byte("abc")), m.Put([]byte("defg")))
	at(t, l, 1, 11, 1)
	at(t, m, 8, 12, 1)
	refused(t, l.Put([]byte("h")), api.ErrFull)
	must(t, m.Sync())
	at(t, l, 1, 11, 1)
	d.Crash()
	holds(t, d, name(1), "", name(8), frames([]byte("defg")))
}
