package wal_test

import (
	"testing"

	"clockwork/api"
	"clockwork/wal"
)

// P8.3: Sync makes all bytes of the current segment durable, and no records wait any more.
func TestSync(t *testing.T) {
	one, two, three := record(3, 'a'), record(4, 'b'), record(5, 'c')
	d, l := started(t, 1000, 100)
	must(t, l.Put(one), l.Put(two))
	at(t, l, 1, 23, 2)
	must(t, l.Sync())
	at(t, l, 1, 23, 0)
	must(t, l.Put(three))
	at(t, l, 1, 36, 1)
	d.Crash()
	holds(t, d, name(1), frames(one, two))
}

// P8.3: Sync is a change of the disk also where no records wait.
func TestSyncNoneWaiting(t *testing.T) {
	for _, b := range []string{"", frames([]byte("abc"))} {
		d, l := begun(t, 1000, 100, 7, b)
		for range 3 {
			must(t, l.Sync())
			at(t, l, 7, len(b), 0)
		}
		d.Arm(2)
		must(t, l.Sync())
		refused(t, l.Sync(), api.ErrDown)
		refused(t, l.Sync(), api.ErrDown)
		at(t, l, 7, len(b), 0)
		d.Crash()
		holds(t, d, name(7), b)
		must(t, l.Sync())
	}
}

// P8.3: Sync makes one change of the disk, whatever waits.
func TestSyncOneChange(t *testing.T) {
	d, l := started(t, 1000, 100)
	must(t, l.Put([]byte{1}), l.Put([]byte{2}))
	d.Arm(2)
	must(t, l.Sync())
	if d.Down() {
		t.Error("more than one change")
	}
	refused(t, d.Sync(name(1)), api.ErrDown)
}

// P8.3: if the disk refuses Sync, the records wait on, and are not durable.
func TestSyncFails(t *testing.T) {
	one, two := record(3, 'a'), record(4, 'b')
	d, l := started(t, 1000, 100)
	must(t, l.Put(one), l.Sync(), l.Put(two))
	d.Arm(1)
	for range 3 {
		refused(t, l.Sync(), api.ErrDown)
		at(t, l, 1, 23, 1)
	}
	d.Crash(12)
	holds(t, d, name(1), frames(one, two))

	d, l = started(t, 1000, 100)
	must(t, l.Put(one), l.Sync(), l.Put(two))
	d.Arm(1)
	refused(t, l.Sync(), api.ErrDown)
	d.Crash()
	holds(t, d, name(1), frames(one))

	d, l = started(t, 1000, 100)
	must(t, l.Put(one), d.Rename(name(1), "moved"))
	refused(t, l.Sync(), api.ErrName)
	at(t, l, 1, 11, 1)
	must(t, d.Rename("moved", name(1)), l.Sync())
	at(t, l, 1, 11, 0)
}

// P8.3: Sync is of the current segment only; that of the segments in front of it is made when they are left.
func TestSyncCurrentOnly(t *testing.T) {
	d, _ := started(t, 1000, 0)
	must(t, d.Append(name(1), []byte("xyz")), d.Create("other"), d.Append("other", []byte("xyz")), d.Create(name(2)))
	l := wal.New(d, 100, 2, 0)
	must(t, l.Put([]byte("abc")), l.Sync())
	d.Crash()
	holds(t, d, name(1), "", name(2), frames([]byte("abc")), "other", "")
}
