package wal_test

import (
	"math/rand/v2"
	"slices"
	"testing"

	"clockwork/api"
	"clockwork/disk"
	"clockwork/wal"
)

// model is a log as the chapter says it, with a disk of its own.
type model struct {
	disk                   *disk.Disk
	most, n, size, waiting int
	put                    [][]byte // the records that are in the segments
	safe                   int      // how many of them survive every crash
}

// Put appends a record.
func (m *model) Put(record []byte) api.Code {
	b := frames(record)
	if len(record) == 0 {
		return api.ErrRange
	}
	if len(record) > 1<<20 || len(b) > m.most {
		return api.ErrLong
	}
	if m.size != 0 && m.size+len(b) > m.most {
		if m.n == last {
			return api.ErrRange
		}
		if code := m.disk.Sync(name(m.n)); code != api.OK {
			return code
		}
		m.safe = len(m.put)
		if code := m.disk.Create(name(m.n + 1)); code != api.OK {
			return code
		}
		m.n++
		m.size, m.waiting = 0, 0
	}
	if code := m.disk.Append(name(m.n), []byte(b)); code != api.OK {
		return code
	}
	m.size += len(b)
	m.waiting++
	m.put = append(m.put, record)
	return api.OK
}

// Sync makes all records durable.
func (m *model) Sync() api.Code {
	code := m.disk.Sync(name(m.n))
	if code == api.OK {
		m.waiting = 0
		m.safe = len(m.put)
	}
	return code
}

// pair is a log, its disk and its model.
type pair struct {
	d *disk.Disk
	l *wal.Log
	m *model
}

// newPair returns a pair in a random segment.
func newPair(t *testing.T, r *rand.Rand) *pair {
	t.Helper()
	n := []int{1, 1, 9, 5000, last - 3, last - 1, last}[r.IntN(7)]
	most, room := 5+r.IntN(60), r.IntN(400)
	d, l := begun(t, room, most, n, "")
	e, _ := begun(t, room, most, n, "")
	return &pair{d, l, &model{disk: e, most: most, n: n}}
}

// step makes one random call of both.
func (p *pair) step(t *testing.T, r *rand.Rand) {
	t.Helper()
	switch r.IntN(8) {
	case 0:
		refused(t, p.l.Sync(), p.m.Sync())
	case 1:
		n := r.IntN(5)
		p.d.Arm(n)
		p.m.disk.Arm(n)
	default:
		record := record(r.IntN(p.m.most), byte(r.Uint32()))
		refused(t, p.l.Put(slices.Clone(record)), p.m.Put(record))
	}
	at(t, p.l, p.m.n, p.m.size, p.m.waiting)
	if p.d.Down() != p.m.disk.Down() {
		t.Errorf("down: %v, want %v", p.d.Down(), p.m.disk.Down())
	}
}

// crash lets both disks crash, and compares the files that are left.
func (p *pair) crash(t *testing.T, r *rand.Rand) {
	t.Helper()
	var carry []int
	for range p.d.List() {
		carry = append(carry, r.IntN(30)-5)
	}
	p.d.Crash(carry...)
	p.m.disk.Crash(carry...)
	var want []string
	for _, file := range p.m.disk.List() {
		b, _ := p.m.disk.Read(file)
		want = append(want, file, string(b))
	}
	holds(t, p.d, want...)
}

// P8.2 to P8.5: random calls, among them those that fail as planned, and a crash at the end.
func TestRandom(t *testing.T) {
	r := rand.New(rand.NewPCG(15, 16))
	for range 5000 {
		p := newPair(t, r)
		for range r.IntN(40) {
			p.step(t, r)
		}
		if !p.d.Down() {
			records, rest := read(t, p.d)
			if !equal(records, p.m.put) || rest != 0 {
				t.Fatalf("the log has %q and %d bytes, want %q", records, rest, p.m.put)
			}
		}
		p.crash(t, r)
		records, _ := read(t, p.d)
		if len(records) < p.m.safe || len(records) > len(p.m.put) || !equal(records, p.m.put[:len(records)]) {
			t.Fatalf("after a crash, the log has %q, want at least %d of %q", records, p.m.safe, p.m.put)
		}
		if t.Failed() {
			return
		}
	}
}
