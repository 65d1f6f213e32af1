package scan_test

import (
	"math"
	"slices"
	"strings"
	"testing"

	"clockwork/api"
	"clockwork/disk"
	"clockwork/scan"
)

// P9.2: the files cut and new are removed, both, one or none of them, whether there are segments or not.
func TestLeftovers(t *testing.T) {
	for _, log := range [][]string{
		{},
		{name(1), frames("a", "b")},
		{name(1), frames("a", "b") + "torn"},
		{name(1), frames("x"), name(2), frames("", "a", "b")},
	} {
		for _, leftovers := range [][]string{
			{}, {"cut", ""}, {"new", ""}, {"cut", frames("z")}, {"new", frames("", "z") + "z"}, {"cut", "x", "new", "y"},
		} {
			d := with(t, 1000, slices.Concat(log, leftovers, []string{"cuts", "s", "new-", "t"})...)
			records, code := scan.Look(d)
			must(t, code)
			if _, again, code := scan.Open(d, 100); code != api.OK || !slices.Equal(texts(again), texts(records)) {
				t.Errorf("Open returned %q and %v, want %q", again, code, records)
			}
			list := d.List()
			if slices.Contains(list, "cut") || slices.Contains(list, "new") || len(list) != 3 {
				t.Errorf("the files %q are left", list)
			}
		}
	}
}

// everything returns the files of a disk where Open makes each change that there is, in turn.
func everything() []string {
	return []string{
		"cut", "xx", name(3), frames("a"), name(4), frames("", "b") + "tt", name(5), frames("", "c"), name(6),
		frames("d") + "ttt", "new", "yy", "other", "zz",
	}
}

// states returns the files of that disk behind each of these changes.
func states() [][]string {
	three, four := []string{name(3), frames("a")}, []string{name(4), frames("", "b") + "tt"}
	five := []string{name(5), frames("", "c")}
	six, cut := []string{name(6), frames("d") + "ttt"}, []string{name(6), frames("d")}
	fresh, other := []string{"new", "yy"}, []string{"other", "zz"}
	return [][]string{
		everything(),
		slices.Concat(three, four, five, six, fresh, other),
		slices.Concat(three, four, five, six, other),
		slices.Concat([]string{"cut", ""}, three, four, five, six, other),
		slices.Concat([]string{"cut", frames("d")}, three, four, five, six, other),
		slices.Concat([]string{"cut", frames("d")}, three, four, five, six, other),
		slices.Concat(three, four, five, cut, other),
		slices.Concat(four, five, cut, other),
		slices.Concat(five, cut, other),
		slices.Concat(five, cut, other),
	}
}

// P9.2: the changes of the disk, in order: removing cut and new, cutting, removing segments in ascending order, syncing.
func TestChanges(t *testing.T) {
	all := states()
	for n, want := range all {
		d := with(t, 1000, everything()...)
		d.Arm(n + 1)
		if n < len(all)-1 {
			openFails(t, d, api.ErrDown)
			if !d.Down() {
				t.Errorf("change %d was not made", n+1)
			}
		} else {
			opens(t, d, 100, 6, 9, "c", "d")
			if d.Down() {
				t.Error("more changes than there should be")
			}
			d.Sync("other")
		}
		d.Crash(slices.Repeat([]int{math.MaxInt}, 9)...)
		holds(t, d, want...)
	}
}

// P9.2: what Open leaves out does not count as a change.
func TestFewerChanges(t *testing.T) {
	for _, c := range []struct {
		changes int
		files   []string
	}{
		{1, nil},
		{1, []string{"other", "x"}},
		{2, []string{"cut", ""}},
		{2, []string{"new", "x"}},
		{3, []string{"cut", "x", "new", "x"}},
		{1, []string{name(1), ""}},
		{1, []string{name(1), frames("a"), name(2), frames("b")}},
		{2, []string{name(1), frames("a"), name(2), frames("", "b")}},
		{3, []string{name(1), frames("a"), name(2), frames("a"), name(7), frames("", "b"), name(8), ""}},
		{5, []string{name(1), frames("a") + "t"}},
		{5, []string{name(1), "t"}},
		{6, []string{name(1), frames("a") + "t", "cut", ""}},
		{7, []string{name(1), frames("a") + "t", "cut", "", "new", ""}},
		{9, []string{name(1), "", name(2), "", name(5), frames("", "a") + "t", "cut", "", "new", ""}},
	} {
		for n := 1; n <= c.changes+1; n++ {
			d := with(t, 1000, c.files...)
			d.Arm(n)
			_, _, code := scan.Open(d, 50)
			if (code == api.OK) != (n > c.changes) || d.Down() != (code != api.OK) {
				t.Errorf("%q: with a failure at change %d, Open returned %v", c.files, n, code)
			}
		}
	}
}

// P9.2: the last segment is durable when it is open.
func TestOpenSyncs(t *testing.T) {
	d := with(t, 1000, name(1), frames("a"))
	must(t, d.Append(name(1), []byte(frames("b"))))
	opens(t, d, 50, 1, 18, "a", "b")
	d.Crash()
	looks(t, d, 0, "a", "b")

	d = with(t, 1000, name(1), frames("a"))
	must(t, d.Append(name(1), []byte(frames("b")+"torn")))
	opens(t, d, 50, 1, 18, "a", "b")
	d.Crash()
	looks(t, d, 0, "a", "b")

	// Without segments, the one that is created has no bytes that could be lost.
	d = disk.New(100)
	opens(t, d, 50, 1, 0)
	d.Crash()
	holds(t, d, name(1), "")

	// Other files, and the segments in front of the last one, are not synced.
	d = with(t, 1000, "other", "x", name(1), frames("a"), name(2), frames("b"))
	must(t, d.Append("other", []byte("y")), d.Append(name(1), []byte(frames("c"))))
	opens(t, d, 50, 2, 9, "a", "c", "b")
	d.Crash()
	holds(t, d, name(1), frames("a"), name(2), frames("b"), "other", "x")
}

// P9.2: too little room for the file cut, and just enough.
func TestNoRoom(t *testing.T) {
	all := []string{name(1), frames("old"), name(2), frames("", "a", "bc") + "torn"}
	const used, whole = 11 + 31, 27
	for room := used; room < used+whole; room++ {
		d := with(t, room, all...)
		for range 3 {
			openFails(t, d, api.ErrFull)
			holds(t, d, append([]string{"cut", ""}, all...)...)
			looks(t, d, 4, "a", "bc")
		}
		d.Crash()
		must(t, d.Remove(name(1)))
		if room >= used-11+whole {
			opens(t, d, 50, 2, whole, "a", "bc")
		} else {
			openFails(t, d, api.ErrFull)
		}
	}
	d := with(t, used+whole, all...)
	opens(t, d, 50, 2, whole, "a", "bc")
	holds(t, d, name(2), frames("", "a", "bc"))

	// What is removed before makes room.
	d = with(t, used+whole, append([]string{"cut", strings.Repeat("x", 20), "new", strings.Repeat("y", 7)}, all...)...)
	opens(t, d, 50, 2, whole, "a", "bc")
	d = with(t, used+whole, append([]string{"cut", "", "cuts", "x"}, all...)...)
	openFails(t, d, api.ErrFull)
	holds(t, d, append([]string{"cut", "", "cuts", "x"}, all...)...)

	// Nothing needs no room: where all bytes are torn, and where none are.
	d = with(t, 4, name(3), "torn")
	opens(t, d, 50, 3, 0)
	holds(t, d, name(3), "")
	d = with(t, 9, name(3), frames("a"))
	opens(t, d, 50, 3, 9, "a")
	opens(t, disk.New(0), 50, 1, 0)
}

// P9.3: opening again returns the same records, and changes nothing more.
func TestOpenTwice(t *testing.T) {
	d := with(t, 1000, everything()...)
	for range 4 {
		opens(t, d, 100, 6, 9, "c", "d")
		holds(t, d, name(5), frames("", "c"), name(6), frames("d"), "other", "zz")
		looks(t, d, 0, "c", "d")
	}
	d.Arm(2)
	opens(t, d, 100, 6, 9, "c", "d")
	if d.Down() {
		t.Error("more than one change")
	}
	for _, tail := range tails() {
		d := with(t, 1000, name(1), frames("a", "b")+tail)
		opens(t, d, 100, 1, 18, "a", "b")
		opens(t, d, 100, 1, 18, "a", "b")
		looks(t, d, 0, "a", "b")
	}
}

// P9.2: the log goes on behind the records, with its greatest size of segments.
func TestGoOn(t *testing.T) {
	d := disk.New(1000)
	l := opens(t, d, 20, 1, 0)
	must(t, l.Put([]byte("a")), l.Put([]byte("bc")), l.Put([]byte("d")))
	holds(t, d, name(1), frames("a", "bc"), name(2), frames("d"))

	l = opens(t, d, 28, 2, 9, "a", "bc", "d")
	must(t, l.Put([]byte("efg")), l.Put([]byte("h")), l.Sync())
	holds(t, d, name(1), frames("a", "bc"), name(2), frames("d", "efg"), name(3), frames("h"))
	must(t, d.Append(name(3), []byte("torn")))

	l = opens(t, d, 18, 3, 9, "a", "bc", "d", "efg", "h")
	must(t, l.Put([]byte("i")), l.Put([]byte("j")))
	if code := l.Put([]byte("12345678901")); code != api.ErrLong {
		t.Errorf("Put returned %v", code)
	}
	looks(t, d, 0, "a", "bc", "d", "efg", "h", "i", "j")
	holds(t, d, name(1), frames("a", "bc"), name(2), frames("d", "efg"), name(3), frames("h", "i"), name(4), frames("j"))
	d.Crash(0, 0, 9, 3)
	looks(t, d, 3, "a", "bc", "d", "efg", "h", "i")

	// Behind a mark alone, and in a segment with more bytes than the greatest size.
	d = with(t, 1000, name(1), frames("x"), name(2), mark)
	must(t, opens(t, d, 20, 2, 8).Put([]byte("abcd")))
	holds(t, d, name(2), frames("", "abcd"))
	must(t, opens(t, d, 10, 2, 20, "abcd").Put([]byte("e")))
	holds(t, d, name(2), frames("", "abcd"), name(3), frames("e"))
	looks(t, d, 0, "abcd", "e")

	// There is no segment behind the last possible one.
	d = with(t, 1000, name(last), frames("a")+"t")
	l = opens(t, d, 18, last, 9, "a")
	must(t, l.Put([]byte("b")))
	if code := l.Put([]byte("c")); code != api.ErrRange {
		t.Errorf("Put returned %v", code)
	}
	looks(t, d, 0, "a", "b")
}

// P9.2, rule 5: every number is allowed as the greatest size; it does not matter for what is there.
func TestAnyGreatestSize(t *testing.T) {
	for _, most := range []int{math.MinInt, -1, 0, 1, 8, 9, 17, 18, 1000, math.MaxInt} {
		d := with(t, 1000, name(1), frames("a", "bc")+"torn")
		l := opens(t, d, most, 1, 19, "a", "bc")
		want := api.OK
		if most < 9 {
			want = api.ErrLong
		}
		if code := l.Put([]byte("d")); code != want {
			t.Errorf("greatest size %d: Put returned %v", most, code)
		}
	}
}
