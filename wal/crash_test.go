package wal_test

import (
	"bytes"
	"math"
	"slices"
	"testing"

	"clockwork/api"
	"clockwork/disk"
	"clockwork/frame"
	"clockwork/wal"
)

// read returns the records of the segments of a disk, one after the other, and the bytes behind their frames.
func read(t *testing.T, d *disk.Disk) (records [][]byte, rest int) {
	t.Helper()
	for _, file := range d.List() {
		b, code := d.Read(file)
		must(t, code)
		more, n := frame.Split(b)
		records = append(records, more...)
		rest += len(b) - n
	}
	return records, rest
}

// equal reports whether records are the same.
func equal(a, b [][]byte) bool { return slices.EqualFunc(a, b, bytes.Equal) }

// carries returns how many bytes a crash may keep of n bytes: each number of them, and those beyond.
func carries(n int) []int {
	l := []int{math.MinInt, -7, -1, n + 1, n + 100, math.MaxInt}
	for i := range n + 1 {
		l = append(l, i)
	}
	return l
}

// kept returns the bytes behind the durable ones that are there after a crash with a carry.
func kept(b string, durable, carry int) string {
	return b[:durable+min(max(carry, 0), len(b)-durable)]
}

// P8.5: after Put, a crash leaves what was durable, and of the rest as many bytes as it keeps.
func TestCrashAfterPut(t *testing.T) {
	one, two, three := record(2, 'a'), record(1, 'b'), record(4, 'c')
	whole, durable := frames(one, two, three), len(frames(one))
	for _, carry := range carries(len(whole) - durable) {
		d, l := started(t, 1000, 100)
		must(t, l.Put(one), l.Sync(), l.Put(two), l.Put(three))
		d.Crash(carry)
		holds(t, d, name(1), kept(whole, durable, carry))
		records, _ := read(t, d)
		want := [][]byte{one}
		if carry >= 9 {
			want = append(want, two)
		}
		if carry >= 21 {
			want = append(want, three)
		}
		if !equal(records, want) {
			t.Errorf("a crash that keeps %d bytes leaves the records %q", carry, records)
		}
	}
	d, l := started(t, 1000, 100)
	must(t, l.Put(one), l.Sync(), l.Put(two), l.Put(three))
	d.Crash()
	holds(t, d, name(1), frames(one))
}

// P8.5: after Sync, all records survive every crash.
func TestCrashAfterSync(t *testing.T) {
	one, two, three := record(2, 'a'), record(1, 'b'), record(4, 'c')
	whole := frames(one, two, three)
	for _, carry := range carries(len(whole)) {
		d, l := started(t, 1000, 100)
		must(t, l.Put(one), l.Put(two), l.Put(three), l.Sync())
		d.Crash(carry)
		d.Crash()
		holds(t, d, name(1), whole)
		must(t, l.Put(one))
		d.Crash(carry)
		holds(t, d, name(1), kept(whole+frames(one), len(whole), carry))
	}
}

// P8.5: as soon as a later segment has been made, the records in front of it survive every crash.
func TestCrashAfterLaterSegment(t *testing.T) {
	one, two, three := record(2, 'a'), record(1, 'b'), record(12, 'c')
	for _, first := range carries(19) {
		for _, second := range carries(20) {
			d, l := started(t, 1000, 20)
			must(t, l.Put(one), l.Put(two), l.Put(three))
			at(t, l, 2, 20, 1)
			d.Crash(first, second)
			holds(t, d, name(1), frames(one, two), name(2), kept(frames(three), 0, second))
		}
	}
	// They survive as well if the disk has no room for the record that made the segment.
	d, l := started(t, 20, 20)
	must(t, l.Put(one), l.Put(two))
	refused(t, l.Put(three), api.ErrFull)
	d.Crash()
	holds(t, d, name(1), frames(one, two), name(2), "")
}

// P8.5: a log goes on behind the bytes that a crash has left.
func TestGoOnAfterCrash(t *testing.T) {
	one, two, three := record(2, 'a'), record(1, 'b'), record(4, 'c')
	d, l := started(t, 1000, 31)
	must(t, l.Put(one), l.Sync(), l.Put(two), l.Put(three))
	d.Crash(9)
	l = wal.New(d, 31, l.Segment(), 19)
	must(t, l.Put(three), l.Put(two), l.Sync())
	d.Crash()
	holds(t, d, name(1), frames(one, two, three), name(2), frames(two))
}

// P8.5: the segments have exactly the records that were put, where other records are refused between them.
func TestRecordsThatWerePut(t *testing.T) {
	d, l := started(t, 300, 40)
	var put [][]byte
	for i := range 200 {
		r := record(i*7%36, byte(i))
		if i%11 == 0 {
			d.Arm(1 + i%3)
		}
		if l.Put(r) == api.OK {
			put = append(put, r)
		}
		if d.Down() {
			d.Crash(slices.Repeat([]int{math.MaxInt}, len(d.List()))...)
		}
		d.Arm(0)
		records, rest := read(t, d)
		if !equal(records, put) || rest != 0 {
			t.Fatalf("after record %d, the log has %q and %d bytes, want %q", i, records, rest, put)
		}
	}
	if len(put) < 10 || d.Used() < 250 {
		t.Errorf("%d records, %d bytes", len(put), d.Used())
	}
}
