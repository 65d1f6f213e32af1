package wal_test

import (
	"bytes"
	"math"
	"testing"

	"clockwork/api"
	"clockwork/disk"
	"clockwork/frame"
	"clockwork/wal"
)

// P8.2: the bytes of a segment, written out.
func TestPutKnown(t *testing.T) {
	d, l := started(t, 1000, 100)
	must(t, l.Put([]byte("123456789")), l.Put([]byte{0}))
	holds(t, d, name(1), "\x09\x00\x00\x00123456789\x78\xD2\x17\x57"+"\x01\x00\x00\x00\x00\x99\x19\x63\x7D")
	at(t, l, 1, 26, 2)
}

// P8.2: the example of the chapter: records of 5 bytes, and the greatest size 20.
func TestPutExample(t *testing.T) {
	d, l := started(t, 1000, 20)
	one, two := []byte("first"), []byte("after")
	must(t, l.Put(one), l.Put(two))
	holds(t, d, name(1), frames(one), name(2), frames(two))
	at(t, l, 2, 13, 1)
}

// P8.2: records have at least one byte.
func TestPutNoBytes(t *testing.T) {
	for _, b := range []string{"", frames([]byte("abc"))} {
		d, l := begun(t, 1000, 11, 2, b)
		refused(t, l.Put(nil), api.ErrRange)
		refused(t, l.Put([]byte{}), api.ErrRange)
		refused(t, l.Put([]byte("abc")[3:]), api.ErrRange)
		at(t, l, 2, len(b), 0)
		holds(t, d, name(2), b)
	}
}

// P8.2: records of one byte, of the greatest length, and of one byte more.
func TestPutLengths(t *testing.T) {
	for _, most := range []int{frame.Most + 8, frame.Most + 9, 1 << 30, math.MaxInt} {
		for _, size := range []int{1, 2, 1000, frame.Most - 1, frame.Most} {
			d, l := started(t, 3<<20, most)
			must(t, l.Put(record(size, 'x')))
			at(t, l, 1, size+8, 1)
			if b, _ := d.Read(name(1)); string(b) != frames(record(size, 'x')) {
				t.Errorf("greatest size %d: the record of %d bytes is not there", most, size)
			}
			for _, long := range []int{frame.Most + 1, frame.Most + 2, 2 << 20} {
				refused(t, l.Put(record(long, 'y')), api.ErrLong)
			}
			at(t, l, 1, size+8, 1)
			if d.Used() != size+8 {
				t.Errorf("%d bytes after a record of %d bytes", d.Used(), size)
			}
		}
	}
}

// P8.2: a frame that has exactly the greatest size of segments, and one byte more, whether the segment has bytes or not.
func TestPutGreatestSize(t *testing.T) {
	for _, most := range []int{9, 10, 20, 33, 264, 1000, frame.Most + 7, frame.Most + 8} {
		fits := record(most-8, 'x')
		d, l := started(t, 4<<20, most)
		refused(t, l.Put(record(most-7, 'y')), api.ErrLong)
		at(t, l, 1, 0, 0)
		must(t, l.Put(fits))
		at(t, l, 1, most, 1)
		refused(t, l.Put(record(most-7, 'y')), api.ErrLong)
		at(t, l, 1, most, 1)
		must(t, l.Put(fits))
		at(t, l, 2, most, 1)
		holds(t, d, name(1), frames(fits), name(2), frames(fits))
	}
}

// P8.2: a frame that fills the current segment exactly stays there, and one with one byte more goes into the next one.
func TestPutFills(t *testing.T) {
	for _, most := range []int{18, 19, 40, 300} {
		for size := 1; size <= most-17; size++ {
			first, fits, more := record(size, 'a'), record(most-16-size, 'b'), record(most-15-size, 'c')
			d, l := started(t, 10000, most)
			must(t, l.Put(first), l.Put(fits))
			at(t, l, 1, most, 2)
			holds(t, d, name(1), frames(first, fits))

			d, l = started(t, 10000, most)
			must(t, l.Put(first), l.Put(more))
			at(t, l, 2, len(more)+8, 1)
			holds(t, d, name(1), frames(first), name(2), frames(more))
		}
	}
}

// P8.2: the next segment has the next number, and the one in front of it gets nothing more.
func TestPutManySegments(t *testing.T) {
	for _, n := range []int{1, 9, 99, 12345, last - 20} {
		d, l := begun(t, 10000, 20, n, "")
		var want []string
		for i := range 20 {
			r := record(7+i%6, byte(i))
			must(t, l.Put(r))
			at(t, l, n+i, len(r)+8, 1)
			want = append(want, name(n+i), frames(r))
		}
		holds(t, d, want...)
	}
}

// P8.2: a current segment without bytes takes the record, so that no segment stays without bytes.
func TestPutWithoutBytes(t *testing.T) {
	d, l := begun(t, 1000, 20, 3, "")
	must(t, l.Put(record(12, 'x')))
	at(t, l, 3, 20, 1)
	holds(t, d, name(3), frames(record(12, 'x')))

	// There is no next segment here, but none is needed.
	d, l = begun(t, 1000, 20, last, "")
	must(t, l.Put(record(12, 'x')))
	at(t, l, last, 20, 1)
	holds(t, d, name(last), frames(record(12, 'x')))
}

// P8.2: a segment that has more bytes than the greatest size already is gone on from.
func TestPutBeyondGreatestSize(t *testing.T) {
	for _, size := range []int{12, 20, 21, 90} {
		b := string(record(size, 'x'))
		d, l := begun(t, 1000, 20, 3, b)
		must(t, l.Put([]byte{1}))
		at(t, l, 4, 9, 1)
		holds(t, d, name(3), b, name(4), frames([]byte{1}))
	}
	_, l := begun(t, 1000, 20, 3, string(record(11, 'x')))
	must(t, l.Put([]byte{1}))
	at(t, l, 3, 20, 1)
}

// P8.2: the size that a segment would have does not wrap around.
func TestPutNoOverflow(t *testing.T) {
	for _, most := range []int{9, 100, math.MaxInt - 1, math.MaxInt} {
		d, _ := started(t, 1000, 0)
		l := wal.New(d, most, 1, math.MaxInt)
		must(t, l.Put([]byte{1}))
		at(t, l, 2, 9, 1)
		holds(t, d, name(1), "", name(2), frames([]byte{1}))
	}
	d, _ := started(t, 1000, 0)
	l := wal.New(d, math.MaxInt, 1, math.MaxInt-9)
	must(t, l.Put([]byte{1}))
	at(t, l, 1, math.MaxInt, 1)
	must(t, l.Put([]byte{2}))
	at(t, l, 2, 9, 1)
}

// P8.2: behind the segment with the greatest number there is none; this is asked before any change of the disk.
func TestPutLastSegment(t *testing.T) {
	one, two := record(5, 'a'), record(7, 'b')
	d, l := begun(t, 1000, 30, last-1, frames(one))
	must(t, l.Put(two), l.Put(one))
	at(t, l, last, 13, 1)
	must(t, l.Put(record(9, 'c')))
	at(t, l, last, 30, 2)
	d.Arm(1)
	for range 3 {
		refused(t, l.Put([]byte{1}), api.ErrRange)
		refused(t, l.Put(record(22, 1)), api.ErrRange)
		at(t, l, last, 30, 2)
	}
	holds(t, d, name(last-1), frames(one, two), name(last), frames(one, record(9, 'c')))
	if d.Down() {
		t.Error("the planned change was made")
	}
	d.Crash(0, 5)
	holds(t, d, name(last-1), frames(one, two), name(last), frames(one)[:5])
}

// none fails no change.
func none(*disk.Disk) {}

// planned plans a failure of the n-th change.
func planned(n int) func(d *disk.Disk) { return func(d *disk.Disk) { d.Arm(n) } }

// down puts a disk down.
func down(d *disk.Disk) {
	d.Arm(1)
	d.Remove("other")
}

// P8.2: the order of the codes: no bytes, too long, no next segment, and then those of the disk.
func TestPutOrderOfCodes(t *testing.T) {
	for _, c := range []struct {
		n, size int
		spoil   func(d *disk.Disk)
		code    api.Code
	}{
		{1, 0, none, api.ErrFull},
		{1, 0, down, api.ErrDown},
		{1, 0, planned(1), api.ErrDown},
		{1, 20, down, api.ErrDown},
		{1, 20, planned(1), api.ErrDown},
		{last, 0, none, api.ErrFull},
		{last, 0, down, api.ErrDown},
		{last, 0, planned(1), api.ErrDown},
		{last, 20, none, api.ErrRange},
		{last, 20, down, api.ErrRange},
		{last, 20, planned(1), api.ErrRange},
	} {
		d, l := begun(t, c.size, 20, c.n, string(record(c.size, 'x'))) // a disk without room for more
		c.spoil(d)
		refused(t, l.Put(nil), api.ErrRange)
		for _, size := range []int{13, 100, frame.Most, frame.Most + 1} {
			refused(t, l.Put(record(size, 1)), api.ErrLong)
		}
		refused(t, l.Put(record(12, 1)), c.code)
		at(t, l, c.n, c.size, 0)
	}
}

// failure is a Put that the disk refuses.
type failure struct {
	name    string
	spoil   func(d *disk.Disk)
	code    api.Code
	segment int  // the current one after it
	created bool // whether there is a next segment after it
}

// P8.2: where Append fails in the current segment, nothing changes in the log.
func TestPutAppendFails(t *testing.T) {
	one, two, small := record(5, 'a'), record(6, 'b'), record(1, 'c')
	for _, f := range []failure{
		{"down", down, api.ErrDown, 4, false},
		{"planned", planned(1), api.ErrDown, 4, false},
		{"no room", none, api.ErrFull, 4, false},
	} {
		t.Run(f.name, func(t *testing.T) {
			d, l := begun(t, 50, 60, 4, frames(one))
			must(t, l.Put(two))
			f.spoil(d)
			refused(t, l.Put(record(16, 'x')), f.code)
			at(t, l, 4, 27, 1)
			d.Crash(1000)
			holds(t, d, name(4), frames(one, two))
			must(t, l.Put(small), l.Sync())
			at(t, l, 4, 36, 0)
			holds(t, d, name(4), frames(one, two, small))
		})
	}
}

// P8.2: where a change fails that goes on with the next segment, nothing changes in the log; but it is in the next
// segment, without bytes and without records that wait, where only Append fails behind that.
func TestPutGoingOnFails(t *testing.T) {
	one, two, more := record(5, 'a'), record(6, 'b'), record(4, 'c')
	next := func(d *disk.Disk) { d.Create(name(5)) }
	for _, f := range []failure{
		{"down", down, api.ErrDown, 4, false},
		{"planned sync", planned(1), api.ErrDown, 4, false},
		{"no file", func(d *disk.Disk) { d.Rename(name(4), "moved") }, api.ErrName, 4, false},
		{"planned create", planned(2), api.ErrDown, 4, false},
		{"name that is there", next, api.ErrTwice, 4, true},
		{"planned append", planned(3), api.ErrDown, 5, true},
		{"no room", func(d *disk.Disk) { d.Create("other"); d.Append("other", record(30, 'x')) }, api.ErrFull, 5, true},
	} {
		t.Run(f.name, func(t *testing.T) {
			d, l := begun(t, 60, 30, 4, frames(one))
			must(t, l.Put(two))
			f.spoil(d)
			refused(t, l.Put(more), f.code)
			d.Rename("moved", name(4))
			if f.segment == 4 {
				at(t, l, 4, 27, 1)
			} else {
				at(t, l, 5, 0, 0)
			}
			d.Crash(1000, 1000, 1000)
			d.Remove("other")
			want := []string{name(4), frames(one, two)}
			if f.created {
				want = append(want, name(5), "")
			}
			holds(t, d, want...)
			if f.segment == 4 && f.created {
				must(t, d.Remove(name(5)))
			}
			must(t, l.Put(more))
			at(t, l, 5, 12, 1)
			holds(t, d, name(4), frames(one, two), name(5), frames(more))
		})
	}
}

// P8.2: which bytes are durable after a Put that failed when it went on: all of the segment, if its Sync has not failed.
func TestPutGoingOnFailsDurable(t *testing.T) {
	one, two := record(5, 'a'), record(6, 'b')
	for n, want := range []string{frames(one), frames(one, two), frames(one, two)} {
		d, l := begun(t, 100, 30, 4, frames(one))
		must(t, l.Put(two))
		d.Arm(n + 1)
		refused(t, l.Put(record(4, 'c')), api.ErrDown)
		d.Crash()
		if n < 2 {
			holds(t, d, name(4), want)
		} else {
			holds(t, d, name(4), want, name(5), "")
		}
	}
}

// P8.2: Put makes no more changes than the chapter says: one in the current segment, and three with the next one.
func TestPutChanges(t *testing.T) {
	d, l := started(t, 1000, 20)
	d.Arm(2)
	must(t, l.Put([]byte("ab")))
	refused(t, l.Put([]byte("cd")), api.ErrDown)
	at(t, l, 1, 10, 1)

	d, l = started(t, 1000, 20)
	must(t, l.Put(record(12, 'x')))
	d.Arm(4)
	must(t, l.Put(record(12, 'y')))
	if d.Down() {
		t.Error("more than three changes")
	}
	at(t, l, 2, 20, 1)
	refused(t, d.Sync(name(2)), api.ErrDown)

	// What is refused makes no change at all.
	d, l = started(t, 1000, 20)
	d.Arm(1)
	refused(t, l.Put(nil), api.ErrRange)
	refused(t, l.Put(record(13, 'x')), api.ErrLong)
	if d.Down() {
		t.Error("a record that is refused changes the disk")
	}
}

// P8.2: other files of the disk are left alone.
func TestPutOtherFiles(t *testing.T) {
	d, l := started(t, 1000, 20)
	must(t, d.Create("other"), d.Append("other", []byte("xyz")), d.Create("new"), d.Create("cut"))
	for i := range 3 {
		must(t, l.Put(record(10, byte(i))), l.Sync())
	}
	holds(t, d, "cut", "", name(1), frames(record(10, 0)), name(2), frames(record(10, 1)), name(3), frames(record(10, 2)),
		"new", "", "other", "xyz")
	d.Crash()
	if b, _ := d.Read("other"); len(b) != 0 {
		t.Errorf("%q is durable", b)
	}
}

// Rule 4: the record is neither changed nor kept, and nothing beyond its length is read or written.
func TestPutMemory(t *testing.T) {
	d, l := started(t, 1000, 100)
	whole := []byte("abcdefghijkl")
	part := whole[2:5]
	must(t, l.Put(part))
	if string(whole) != "abcdefghijkl" {
		t.Errorf("changed to %q", whole)
	}
	copy(whole, "zzzzzzzzzzzz")
	must(t, l.Put(whole[:1]))
	if !bytes.Equal(whole, record(12, 'z')) {
		t.Errorf("changed to %q", whole)
	}
	holds(t, d, name(1), frames([]byte("cde"), []byte("z")))
}
