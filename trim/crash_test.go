package trim_test

import (
	"fmt"
	"math"
	"slices"
	"strings"
	"testing"

	"clockwork/api"
	"clockwork/disk"
	"clockwork/scan"
	"clockwork/trim"
	"clockwork/wal"
)

// all is how much a crash keeps if it keeps all bytes.
var all = slices.Repeat([]int{math.MaxInt}, 20)

// carries returns, for some files, how many bytes a crash may keep of each of them: the same number of all of them, or
// of one of them only, where the others keep none or all.
func carries(files int) [][]int {
	l := [][]int{nil, {-1}}
	for _, keep := range []int{math.MinInt, 0, 1, 7, 8, 9, 17, 26, 1000, math.MaxInt} {
		l = append(l, slices.Repeat([]int{keep}, files))
		for i := range files {
			one := make([]int, files)
			one[i] = keep
			most := slices.Repeat([]int{math.MaxInt}, files)
			most[i] = keep
			l = append(l, one, most)
		}
	}
	return l
}

// started returns a disk with other files and with a log in the segments 3 to 5, whose records "a" to "c" are durable.
func started(t *testing.T, fresh ...string) (*disk.Disk, *wal.Log) {
	t.Helper()
	d := with(t, 1000, name(3), frames("a"), name(4), frames("b"), name(5), frames("c"), "other", "z")
	l := open(t, d, 20)
	for i := 0; i < len(fresh); i += 2 {
		must(t, d.Create(fresh[i]), d.Append(fresh[i], []byte(fresh[i+1])), d.Sync(fresh[i]))
	}
	return d, l
}

// states returns the files of that disk with the files cut and new, behind each change of compacting with "d" and "ef",
// where all bytes are kept, or where only the durable ones are.
func states(durable bool) [][]string {
	three, four, five := []string{name(3), frames("a")}, []string{name(4), frames("b")}, []string{name(5), frames("c")}
	cut, other := []string{"cut", "xx"}, []string{"other", "z"}
	bytes := mark + frames("d", "ef")
	filled := bytes
	if durable {
		filled = ""
	}
	six := []string{name(6), bytes}
	return [][]string{
		slices.Concat(cut, three, four, five, []string{"new", "yy"}, other),
		slices.Concat(cut, three, four, five, other),
		slices.Concat(cut, three, four, five, []string{"new", ""}, other),
		slices.Concat(cut, three, four, five, []string{"new", filled}, other),
		slices.Concat(cut, three, four, five, []string{"new", bytes}, other),
		slices.Concat(cut, three, four, five, six, other),
		slices.Concat(cut, four, five, six, other),
		slices.Concat(cut, five, six, other),
		slices.Concat(cut, six, other),
	}
}

// P10.1: the changes of the disk, in order, whose codes end it: removing new, creating, appending, syncing and renaming
// it, and removing the segments in front of the new one in ascending order. No other files are changed.
func TestChanges(t *testing.T) {
	for _, keep := range [][]int{all, nil} {
		files := states(keep == nil)
		for n, want := range files {
			d, l := started(t, "cut", "xx", "new", "yy")
			d.Arm(n + 1)
			if n < len(files)-1 {
				fails(t, d, l, api.ErrDown, "d", "ef")
				if !d.Down() {
					t.Errorf("change %d was not made", n+1)
				}
			} else {
				compacts(t, d, l, 20, "d", "ef")
				if d.Down() {
					t.Error("more changes than there should be")
				}
			}
			d.Crash(keep...)
			holds(t, d, want...)
		}
	}
}

// P10.1: the file new is removed only if it is there; the more segments, the more of them are removed.
func TestFewerChanges(t *testing.T) {
	for segments := 1; segments < 6; segments++ {
		for _, fresh := range []bool{false, true} {
			changes := 4 + segments
			if fresh {
				changes++
			}
			for n := 1; n <= changes+1; n++ {
				d, l := logged(t, 1000, slices.Repeat([]string{"abc"}, segments)...)
				if fresh {
					must(t, d.Create("new"))
				}
				d.Arm(n)
				m, code := trim.Compact(d, l, 20, []byte("a"))
				if (code == api.OK) != (n > changes) || (m == nil) != (code != api.OK) || d.Down() != (m == nil) {
					t.Errorf("%d segments, change %d of %d: %v and %v", segments, n, changes, m, code)
				}
			}
		}
	}
}

// P10.1: too little room for the new segment, and just enough; the log that has not been compacted goes on.
func TestNoRoom(t *testing.T) {
	const used, size = 18 + 28, 28 // of the records below, and of the new segment
	for room := used; room < used+size+20; room++ {
		d, l := logged(t, room, "0123456789", "0123456789", "01")
		if room >= used+size {
			compacts(t, d, l, 20, "ab", "cd")
			continue
		}
		before := files(t, d)
		for range 3 {
			fails(t, d, l, api.ErrFull, "ab", "cd")
			isAt(t, l, 3, 10)
			holds(t, d, append(slices.Clone(before), "new", "")...)
			looks(t, d, "0123456789", "0123456789", "01")
		}
		want := []string{"0123456789", "0123456789", "01"}
		if room >= used+9 {
			put(t, l, "x")
			must(t, l.Sync())
			want = append(want, "x")
		}
		d.Crash()
		looks(t, d, want...)
		if room >= used+8 && room < used+9 || room >= used+17 {
			compacts(t, d, l, 20)
		}
	}
}

// P10.1: a file new that is removed makes room, other files do not.
func TestRoomOfNew(t *testing.T) {
	d, l := logged(t, 9+17, "a")
	must(t, d.Create("new"), d.Append("new", make([]byte, 17)))
	compacts(t, d, l, 20, "b")
	holds(t, d, name(2), frames("", "b"))

	d, l = logged(t, 9+17, "a")
	must(t, d.Create("cut"), d.Append("cut", []byte("x")), d.Create("new"), d.Append("new", []byte("x")))
	fails(t, d, l, api.ErrFull, "b")
	holds(t, d, "cut", "x", name(1), frames("a"), "new", "")
	compacts(t, d, l, 20)
	holds(t, d, "cut", "x", name(2), mark)
}

// P10.1: a file new is replaced, whatever it has, and whether this is durable or not.
func TestReplacesNew(t *testing.T) {
	for _, b := range []string{"", "x", mark, frames("", "x"), frames("", "d"), strings.Repeat("x", 300)} {
		d, l := started(t, "new", b)
		compacts(t, d, l, 20, "d")
		holds(t, d, name(6), frames("", "d"), "other", "z")
		d, l = started(t)
		must(t, d.Create("new"), d.Append("new", []byte(b)))
		compacts(t, d, l, 20, "d")
		d.Crash()
		holds(t, d, name(6), frames("", "d"), "other", "z")
	}
}

// P10.3: a failure planned at each change, and a crash behind it, leave either the old records or the new ones: the new
// ones if the new segment has got its name. Another compaction may fail behind it, too.
func TestCrashes(t *testing.T) {
	for _, after := range [][]string{nil, {"d"}, {"d", "ef"}, {"b", "c"}} {
		for n := 1; n <= 8; n++ {
			for _, carry := range carries(6) {
				for again := range 8 {
					d, l := started(t, "new", frames("", "x"))
					d.Arm(n)
					fails(t, d, l, api.ErrDown, after...)
					d.Crash(carry...)
					want := []string{"a", "b", "c"}
					if n > 5 {
						want = after
					}
					looks(t, d, want...)
					l = open(t, d, 20)
					looks(t, d, want...)
					d.Arm(again)
					if m, code := trim.Compact(d, l, 20, []byte("g")); code == api.OK {
						l, want = m, []string{"g"}
					} else {
						d.Crash(carry...)
						if want = look(t, d); !slices.Equal(want, []string{"g"}) {
							l = open(t, d, 20)
						}
					}
					d.Arm(0)
					l = open(t, d, 100)
					put(t, l, "more")
					must(t, l.Sync())
					d.Crash()
					looks(t, d, append(slices.Clone(want), "more")...)
				}
			}
			if t.Failed() {
				t.Fatalf("records %q, change %d", after, n)
			}
		}
	}
}

// driven is a log that is compacted now and then.
type driven struct {
	disk    *disk.Disk
	log     *wal.Log
	records []string // what the log has
	safe    int      // how many of them survive every crash
	next    []string // what it may have too, if compacting has failed
	failed  bool     // whether it has
}

// drive puts some records into a log, syncs and compacts it, until it fails.
func (v *driven) drive(n int) {
	for i := range n {
		r := fmt.Sprint("record ", i*i*i*7)
		before := v.log.Segment()
		code := v.log.Put([]byte(r))
		if v.log.Segment() != before {
			v.safe = len(v.records)
		}
		if code != api.OK {
			return
		}
		v.records = append(v.records, r)
		if i%3 == 1 {
			if v.log.Sync() != api.OK {
				return
			}
			v.safe = len(v.records)
		}
		if i%5 == 4 && !v.compact() {
			return
		}
	}
}

// compact leaves out every second record, and reports whether this has not failed.
func (v *driven) compact() bool {
	var kept []string
	for i, r := range v.records {
		if i%2 == 0 {
			kept = append(kept, r)
		}
	}
	l, code := trim.Compact(v.disk, v.log, 45, bytesOf(kept...)...)
	if code != api.OK {
		v.next, v.failed = kept, true
		return false
	}
	v.log, v.records, v.safe = l, kept, len(kept)
	return true
}

// survives fails the test unless the log on a disk that has crashed has a beginning of its records with all that
// survive, or exactly those with which it was compacted last.
func (v *driven) survives(t *testing.T) {
	t.Helper()
	got := look(t, v.disk)
	beginning := len(got) <= len(v.records) && slices.Equal(got, v.records[:len(got)])
	if !(beginning && len(got) >= v.safe) && !(v.failed && slices.Equal(got, v.next)) {
		t.Fatalf("the log has %q, want at least %d of %q or (%v) %q", got, v.safe, v.records, v.failed, v.next)
	}
	v.log = open(t, v.disk, 45)
	looks(t, v.disk, got...)
	v.records, v.safe, v.next, v.failed = got, len(got), nil, false
}

// P10.3, P3: a log that is compacted now and then crashes at each change, with each of the carries, and goes on.
func TestLogCrashes(t *testing.T) {
	for n := 1; ; n++ {
		down := true
		for _, carry := range carries(7) {
			d := disk.New(10000)
			v := driven{disk: d, log: open(t, d, 45)}
			d.Arm(n)
			v.drive(17)
			down = d.Down()
			d.Crash(carry...)
			v.survives(t)
			if !v.compact() {
				t.Fatal("the log is not compacted")
			}
			d.Crash(carry...)
			v.survives(t)
			v.drive(4)
			d.Crash(carry...)
			v.survives(t)
		}
		if !down {
			break
		}
	}
}

// P10.3: of a new segment that has not got its name, nothing is a record of the log, whatever a crash keeps of it; and
// when the log is opened, it is removed.
func TestNewIsRemoved(t *testing.T) {
	for n := 2; n <= 4; n++ {
		for keep := range 30 {
			d, l := started(t)
			d.Arm(n)
			fails(t, d, l, api.ErrDown, "d", "ef")
			d.Crash(0, 0, 0, keep)
			if !slices.Contains(d.List(), "new") {
				t.Errorf("change %d: the files are %q", n, d.List())
			}
			if records, _, code := scan.Open(d, 20); records == nil || code != api.OK {
				t.Errorf("Open returned %v", code)
			}
			holds(t, d, name(3), frames("a"), name(4), frames("b"), name(5), frames("c"), "other", "z")
		}
	}
}
