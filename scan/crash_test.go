package scan_test

import (
	"bytes"
	"fmt"
	"math"
	"math/rand/v2"
	"slices"
	"testing"

	"clockwork/api"
	"clockwork/disk"
	"clockwork/scan"
	"clockwork/wal"
)

// carries returns, for some files, how many bytes a crash may keep of each of them: the same number of all of them, or
// of one of them only, where the others keep none or all.
func carries(files int) [][]int {
	l := [][]int{nil, {-1}}
	for _, keep := range []int{math.MinInt, 0, 1, 3, 7, 8, 9, 12, 20, 29, 1000, math.MaxInt} {
		l = append(l, slices.Repeat([]int{keep}, files))
		for i := range files {
			one := make([]int, files)
			one[i] = keep
			most := slices.Repeat([]int{math.MaxInt}, files)
			most[i] = keep
			l = append(l, one, most)
		}
	}
	return l
}

// P9.3: a failure planned at each change of Open, with a crash behind it and another Open, changes no record.
func TestOpenCrashes(t *testing.T) {
	for _, c := range []struct {
		files, records []string
		changes        int
		n, size        int
	}{
		{nil, nil, 1, 1, 0},
		{[]string{"cut", "x", "new", frames("", "y")}, nil, 3, 1, 0},
		{[]string{name(1), frames("a", "b") + "torn"}, []string{"a", "b"}, 5, 1, 18},
		{[]string{name(1), "torn"}, nil, 5, 1, 0},
		{[]string{name(4), frames("x"), name(5), mark}, nil, 2, 5, 8},
		{everything(), []string{"c", "d"}, 9, 6, 9},
	} {
		for n := 1; n <= c.changes; n++ {
			for _, carry := range carries(7) {
				for again := range c.changes + 2 {
					d := with(t, 1000, c.files...)
					d.Arm(n)
					openFails(t, d, api.ErrDown)
					d.Crash(carry...)
					torn := scan.Torn(d)
					looks(t, d, torn, c.records...)
					// Another failure behind it, or none.
					d.Arm(again)
					if _, _, code := scan.Open(d, 100); code != api.OK {
						d.Crash(carry...)
						looks(t, d, scan.Torn(d), c.records...)
					}
					d.Arm(0)
					l := opens(t, d, 100, c.n, c.size, c.records...)
					looks(t, d, 0, c.records...)
					must(t, l.Put([]byte("more")), l.Sync())
					d.Crash()
					looks(t, d, 0, append(slices.Clone(c.records), "more")...)
				}
			}
			if t.Failed() {
				t.Fatalf("files %q, change %d", c.files, n)
			}
		}
	}
}

// driven is a log, with what was put into it.
type driven struct {
	put  []string // the records for which Put returned api.OK
	safe int      // how many of them survive every crash
}

// drive puts records into a log, and syncs it now and then, until it fails.
func (v *driven) drive(l *wal.Log, n int) {
	for i := range n {
		r := fmt.Sprint("record ", i*i*i*7)
		before := l.Segment()
		code := l.Put([]byte(r))
		if l.Segment() != before {
			v.safe = len(v.put)
		}
		if code != api.OK {
			return
		}
		v.put = append(v.put, r)
		if i%4 == 2 {
			if l.Sync() != api.OK {
				return
			}
			v.safe = len(v.put)
		}
	}
}

// survives fails the test unless the log on a disk that has crashed has a beginning of the records that were put into
// it, with all that survive; it opens the log, and puts another record into it.
func (v *driven) survives(t *testing.T, d *disk.Disk, most int) {
	t.Helper()
	records := texts(look(t, d))
	if len(records) < v.safe || len(records) > len(v.put) || !slices.Equal(records, v.put[:len(records)]) {
		t.Fatalf("after a crash, the log has %q, want at least %d of %q", records, v.safe, v.put)
	}
	l, again, code := scan.Open(d, most)
	if code != api.OK || !slices.Equal(texts(again), records) {
		t.Fatalf("Open returned %q and %v, want %q", again, code, records)
	}
	looks(t, d, 0, records...)
	must(t, l.Put([]byte("one more")), l.Sync())
	d.Crash()
	looks(t, d, 0, append(records, "one more")...)
	opens(t, d, most, l.Segment(), l.Size(), append(records, "one more")...)
}

// P9.3, P3: a log crashes at each change, with each of the carries.
func TestLogCrashes(t *testing.T) {
	for _, begin := range [][]string{nil, {name(3), frames("x"), name(4), mark}} {
		for _, most := range []int{20, 45, 70, 1000} {
			for n := 1; ; n++ {
				down := true
				for _, carry := range carries(9) {
					d := with(t, 10000, begin...)
					l, _, code := scan.Open(d, most)
					must(t, code)
					d.Arm(n)
					var v driven
					v.drive(l, 12)
					down = d.Down()
					d.Crash(carry...)
					v.survives(t, d, most)
				}
				if !down {
					break
				}
			}
		}
	}
}

// P9.3: a log whose bytes are changed behind some place, or cut there, is broken or has a beginning of its records.
func TestDamage(t *testing.T) {
	r := rand.New(rand.NewPCG(19, 20))
	for _, most := range []int{30, 60, 1000} {
		d := disk.New(10000)
		var v driven
		v.drive(opens(t, d, most, 1, 0), 12)
		all := files(t, d)
		for i := 1; i < len(all); i += 2 {
			for at := range len(all[i]) {
				changed, cut := slices.Clone(all), slices.Clone(all)
				b := []byte(all[i])
				b[at] ^= 1 << r.IntN(8)
				changed[i], cut[i] = string(b), all[i][:at]
				v.brokenOrBeginning(t, with(t, 10000, changed...), i == len(all)-1)
				// Where a segment in front of the last one is cut between two records, nothing tells it.
				if behind(cut[i]) > 0 || i == len(all)-1 {
					v.brokenOrBeginning(t, with(t, 10000, cut...), i == len(all)-1)
				}
			}
		}
	}
}

// brokenOrBeginning fails the test unless a log is broken, or has a beginning of the records that were put into it.
func (v *driven) brokenOrBeginning(t *testing.T, d *disk.Disk, beginning bool) {
	t.Helper()
	if !beginning {
		fails(t, d, api.ErrBroken)
		return
	}
	records := texts(look(t, d))
	if len(records) > len(v.put) || !slices.Equal(records, v.put[:len(records)]) {
		t.Errorf("the log has %q, want a beginning of %q", records, v.put)
	}
	_, again, code := scan.Open(d, 100)
	if code != api.OK || !slices.Equal(texts(again), records) {
		t.Errorf("Open returned %q and %v, want %q", again, code, records)
	}
}

// P9.3: a log that is opened, and crashes, again and again.
func TestManyCrashes(t *testing.T) {
	r := rand.New(rand.NewPCG(21, 22))
	for range 300 {
		d := disk.New(100000)
		var safe [][]byte // the records of the log when it was opened last
		for range 12 {
			d.Arm(r.IntN(12))
			l, records, code := scan.Open(d, 20+r.IntN(50))
			if code == api.OK {
				if len(records) < len(safe) || !slices.EqualFunc(records[:len(safe)], safe, bytes.Equal) {
					t.Fatalf("Open returned %q, want at least %q", records, safe)
				}
				safe = records
				d.Arm(r.IntN(30))
				var v driven
				v.drive(l, r.IntN(20))
				for _, text := range v.put[:v.safe] {
					safe = append(safe, []byte(text))
				}
			}
			var carry []int
			for range d.List() {
				carry = append(carry, r.IntN(60)-15)
			}
			d.Crash(carry...)
		}
	}
}
