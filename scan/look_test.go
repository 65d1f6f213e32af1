package scan_test

import (
	"strings"
	"testing"
)

// P9.1: a number that is missing between those of the segments of the log.
func TestGap(t *testing.T) {
	a := frames("a")
	broken(t, name(1), a, name(3), a)
	broken(t, name(1), "", name(3), "")
	broken(t, name(1), a, name(2), a, name(4), a)
	broken(t, name(2), a, name(4), a, name(5), a)
	broken(t, name(1), a, name(last), a)
	broken(t, name(1), frames("", "a"), name(3), a)
	broken(t, name(1), a, name(2), frames(""), name(4), "")
	broken(t, name(1), a, name(2), a, name(4), "torn")
	broken(t, name(1), a, name(2), a, name(5), a, name(6), a)
	broken(t, "cut", a, name(1), a, name(3), a, "new", a)
	broken(t, name(9), a, name(11), a, name(10)+".", a)
}

// P9.1: the first segment need not have the number 1, and what is missing in front of it is not missed.
func TestGapInFront(t *testing.T) {
	d := with(t, 1000, name(1), frames("a"), name(7), frames("", "b"), name(8), frames("c"))
	looks(t, d, 0, "b", "c")
	opens(t, d, 50, 8, 9, "b", "c")
	holds(t, d, name(7), frames("", "b"), name(8), frames("c"))

	d = with(t, 1000, name(1), "", name(3), frames("", "x"), name(4), "torn", name(9), frames("", "b"))
	looks(t, d, 0, "b")
	opens(t, d, 50, 9, 17, "b")
	holds(t, d, name(9), frames("", "b"))

	d = with(t, 1000, name(700), frames("b"), name(701), frames("c"))
	looks(t, d, 0, "b", "c")
}

// P9.1: a mark at the beginning of the first segment, of a later one, and of several ones.
func TestMark(t *testing.T) {
	if frames("") != mark {
		t.Fatalf("the mark is %q", frames(""))
	}
	for _, c := range []struct {
		segments []string // from the number 5 on
		first    int      // which of them is the first one of the log
		records  []string
	}{
		{[]string{frames("", "a")}, 0, []string{"a"}},
		{[]string{frames("", "a", "b"), frames("c")}, 0, []string{"a", "b", "c"}},
		{[]string{frames("a"), frames("", "b")}, 1, []string{"b"}},
		{[]string{frames("a"), frames("", "b"), frames("c")}, 1, []string{"b", "c"}},
		{[]string{frames("", "a"), frames("", "b"), frames("c")}, 1, []string{"b", "c"}},
		{[]string{frames("", "a"), frames("b"), frames("", "c")}, 2, []string{"c"}},
		{[]string{frames("", "a"), frames("", "b"), frames("", "c")}, 2, []string{"c"}},
		{[]string{frames("", "a"), frames("", "b"), frames("", "c"), "", frames("d")}, 2, []string{"c", "d"}},
		{[]string{mark, frames("a")}, 0, []string{"a"}},
		{[]string{frames("a"), mark, frames("b")}, 1, []string{"b"}},
		{[]string{frames("a"), frames("b"), mark}, 2, nil},
		{[]string{mark, mark, mark}, 2, nil},
		{[]string{mark}, 0, nil},
	} {
		var all, left []string
		size := 0
		for i, b := range c.segments {
			all = append(all, name(5+i), b)
			if i >= c.first {
				left = append(left, name(5+i), b)
			}
			size = len(b)
		}
		d := with(t, 1000, all...)
		looks(t, d, 0, c.records...)
		holds(t, d, all...)
		opens(t, d, 50, 4+len(c.segments), size, c.records...)
		holds(t, d, left...)
		looks(t, d, 0, c.records...)
	}
}

// P9.1: a mark other than at the beginning of the first segment.
func TestMarkInside(t *testing.T) {
	a := frames("a")
	broken(t, name(1), frames("a", ""))
	broken(t, name(1), frames("a", "", "b"))
	broken(t, name(1), frames("", ""))
	broken(t, name(1), frames("", "a", ""))
	broken(t, name(1), frames("a", "")+"torn")
	broken(t, name(1), frames("a", ""), name(2), a)
	broken(t, name(1), a, name(2), frames("b", ""), name(3), a)
	broken(t, name(1), a, name(2), frames("b", ""))
	broken(t, name(1), a, name(2), frames("", "b", "", "c"))
	broken(t, name(1), a, name(2), frames("", "b"), name(3), frames("c", ""))
	broken(t, name(1), frames("", ""), name(2), "")
	broken(t, name(3), frames("", "a", ""), name(4), "", name(5), "torn")
}

// P9.1: mistakes in segments in front of the first one do not matter.
func TestMistakesInFront(t *testing.T) {
	end := frames("", "z")
	for _, b := range []string{
		"", "t", "torn bytes", frames("a", ""), frames("", ""), frames("a") + "t", frames("", "a", "", "b") + "t", mark[:7],
		frames("ab")[:9],
	} {
		d := with(t, 1000, name(1), b, name(2), end)
		looks(t, d, 0, "z")
		opens(t, d, 50, 2, 17, "z")
		holds(t, d, name(2), end)
		d = with(t, 1000, name(1), frames("", "x"), name(2), b, name(5), end, name(6), frames("y")+"torn")
		looks(t, d, 4, "z", "y")
		opens(t, d, 50, 6, 9, "z", "y")
		holds(t, d, name(5), end, name(6), frames("y"))
	}
}

// behind returns the number of bytes behind the frames of a segment.
func behind(b string) int {
	_, rest := split(b)
	return len(rest)
}

// tails returns bytes that begin with no frame.
func tails() []string {
	l := []string{"t", "torn", "\x00", "\x00\x00\x00\x00", "\x00\x00\x00\x00\x00\x00\x00\x00", strings.Repeat("\x00", 40)}
	l = append(l, strings.Repeat("\xFF", 3), strings.Repeat("\xFF", 50), "\x01\x00\x10\x00"+strings.Repeat("x", 60))
	for _, whole := range []string{frames("abc"), mark, frames("x"), frames(mark)} {
		// A frame that is cut at each of its bytes.
		for i := 1; i < len(whole); i++ {
			l = append(l, whole[:i], whole[i:])
		}
		// One with a changed byte, behind which there is another frame, or not.
		for i := range len(whole) {
			for _, bit := range []byte{1, 8, 128} {
				b := []byte(whole)
				b[i] ^= bit
				l = append(l, string(b), string(b)+frames("more"), string(b)+mark)
			}
		}
	}
	// A frame that is not cut would be one of the log.
	var none []string
	for _, b := range l {
		if behind(b) == len(b) {
			none = append(none, b)
		}
	}
	return none
}

// P9.1, P9.2: bytes behind the frames of the last segment are torn, and cut when the log is opened.
func TestTorn(t *testing.T) {
	if n := len(tails()); n < 200 {
		t.Fatalf("only %d tails", n)
	}
	for _, tail := range tails() {
		for _, whole := range []string{"", frames("a"), frames("a", "bc"), frames("", "a"), mark} {
			records, _ := split(strings.TrimPrefix(whole, mark))
			d := with(t, 1000, name(8), whole+tail)
			looks(t, d, len(tail), records...)
			opens(t, d, 50, 8, len(whole), records...)
			holds(t, d, name(8), whole)
			looks(t, d, 0, records...)
		}
		d := with(t, 1000, name(7), frames("", "x"), name(8), frames("y"), name(9), tail)
		looks(t, d, len(tail), "x", "y")
		opens(t, d, 50, 9, 0, "x", "y")
		holds(t, d, name(7), frames("", "x"), name(8), frames("y"), name(9), "")
		if t.Failed() {
			t.Fatalf("tail %q", tail)
		}
	}
}

// P9.1: bytes behind the frames of a segment in front of the last one.
func TestTornInFront(t *testing.T) {
	for _, tail := range tails() {
		broken(t, name(1), tail, name(2), frames("b"))
		broken(t, name(1), frames("a")+tail, name(2), frames("b"))
		broken(t, name(1), frames("a")+tail, name(2), "")
		broken(t, name(1), frames("", "a")+tail, name(2), frames("b"), name(3), frames("c"))
		broken(t, name(1), frames("a"), name(2), frames("b")+tail, name(3), frames("c"))
		broken(t, name(1), frames("a"), name(2), frames("", "b")+tail, name(3), tail)
		if t.Failed() {
			t.Fatalf("tail %q", tail)
		}
	}
}

// P9.1: torn bytes hide what is behind them, marks too.
func TestTornHides(t *testing.T) {
	d := with(t, 1000, name(1), frames("a"), name(2), "t"+frames("", "b"))
	looks(t, d, 18, "a")
	opens(t, d, 50, 2, 0, "a")
	holds(t, d, name(1), frames("a"), name(2), "")
	d = with(t, 1000, name(2), frames("a")+"t"+frames("", "b"))
	looks(t, d, 18, "a")
}
