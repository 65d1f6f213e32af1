package trim_test

import (
	"math/rand/v2"
	"strings"
	"testing"

	"clockwork/api"
	"clockwork/disk"
	"clockwork/trim"
)

// costs fails the test unless records cost some bytes, and this is how many bytes compacting with them leaves.
func costs(t *testing.T, want int, records ...string) {
	t.Helper()
	if got := trim.Cost(bytesOf(records...)...); got != want {
		t.Errorf("Cost(%.100q) = %d, want %d", records, got, want)
	}
}

// P10.2: the bytes of the new segment.
func TestCost(t *testing.T) {
	costs(t, 8)
	costs(t, 17, "a")
	costs(t, 27, "a", "bc")
	costs(t, 27, "bc", "a")
	costs(t, 38, "a", "a", "abcd")
	costs(t, 16+long, strings.Repeat("x", long))
	// Records that Compact refuses count like others.
	costs(t, 16, "")
	costs(t, 33, "a", "", "")
	costs(t, 17+long, strings.Repeat("x", long+1))
	if got := trim.Cost(nil, nil); got != 24 {
		t.Errorf("Cost(nil, nil) = %d", got)
	}
}

// P10.2: what Compact leaves is what Cost has said, for random records.
func TestCostRandom(t *testing.T) {
	r := rand.New(rand.NewPCG(23, 24))
	for range 500 {
		var records []string
		for range r.IntN(20) {
			records = append(records, strings.Repeat("z", 1+r.IntN(300)))
		}
		costs(t, len(frames("")+frames(records...)), records...)
		d, l := logged(t, 10000, "a", "b")
		l = compacts(t, d, l, 20, records...)
		costs(t, l.Size(), records...)
		costs(t, d.Used(), records...)
	}
}

// worth fails the test unless it is worth to compact a log on a disk with records that cost less than some bytes, and
// only with these.
func worth(t *testing.T, d *disk.Disk, size int) {
	t.Helper()
	for cost := 8; cost < size+40; cost++ {
		var records [][]byte
		switch {
		case cost > 60:
			records = [][]byte{make([]byte, 5), make([]byte, cost-29)}
		case cost >= 16:
			records = [][]byte{make([]byte, cost-16)}
		case cost > 8:
			continue // no records cost so much
		}
		if trim.Cost(records...) != cost {
			t.Fatalf("the cost is %d, want %d", trim.Cost(records...), cost)
		}
		if got := trim.Worth(d, records...); got != (cost < size) {
			t.Errorf("Worth is %v for %d bytes instead of %d", got, cost, size)
		}
	}
}

// P10.2: all bytes of all segments count, and none of other files.
func TestWorth(t *testing.T) {
	worth(t, disk.New(100), 0)
	worth(t, with(t, 1000, name(1), ""), 0)
	worth(t, with(t, 1000, name(1), mark), 8)
	worth(t, with(t, 1000, name(1), mark+"x"), 9)
	worth(t, with(t, 1000, name(3), frames("a", "bc")), 19)
	worth(t, with(t, 1000, name(1), frames("a"), name(2), frames("b"), name(3), "", name(4), frames("cd")), 28)
	others := []string{
		"new", frames("", "a"), "cut", frames("b"), "log-0000001", mark, "log-00000000", mark, "log-000000001", mark,
		"log-00000001.old", mark, "log-0000000a", mark, "log-100000000", mark, "zog-00000001", mark, "other", mark,
	}
	worth(t, with(t, 1000, others...), 0)
	worth(t, with(t, 1000, append(others, name(2), strings.Repeat("x", 100))...), 100)
	// Segments that do not belong to the log count too, and so do bytes that are torn, or that are not durable.
	worth(t, with(t, 1000, name(1), frames("a"), name(5), frames("", "b"), name(last), "torn"), 30)
	worth(t, with(t, 1000, name(1), "broken", name(2), "123", name(4), "12"), 11)
	d := with(t, 1000, name(1), frames("a"))
	must(t, d.Append(name(1), []byte("12345")))
	worth(t, d, 14)
	d.Crash(2)
	worth(t, d, 11)
}

// P10.2: invalid input: a nil disk, a disk that is down, and records that Compact refuses.
func TestWorthInvalid(t *testing.T) {
	worth(t, nil, 0)
	if trim.Worth(nil) || trim.Worth(nil, []byte("a")) || trim.Worth(nil, nil) {
		t.Error("a nil disk is worth to be compacted")
	}
	d := with(t, 1000, name(1), strings.Repeat("x", 100), name(2), strings.Repeat("x", 100))
	worth(t, d, 200)
	d.Arm(1)
	d.Remove("other")
	worth(t, d, 0)
	d.Crash()
	worth(t, d, 200)
	if !trim.Worth(d, nil, []byte{}) || trim.Worth(d, make([]byte, long+1)) {
		t.Error("records that Compact refuses do not count like others")
	}
}

// P10.2: neither Cost nor Worth changes anything, and what is planned stays planned.
func TestWorthChangesNothing(t *testing.T) {
	d := with(t, 1000, name(1), frames("a")+"torn", "new", "x", "cut", "y")
	must(t, d.Append(name(1), []byte("more")))
	all := files(t, d)
	d.Arm(1)
	for range 3 {
		trim.Cost([]byte("a"))
		trim.Worth(d)
		trim.Worth(d, []byte("a"), make([]byte, 1000))
	}
	holds(t, d, all...)
	if d.Down() || d.Create("one") != api.ErrDown {
		t.Error("the planned change was made")
	}
	d.Crash()
	holds(t, d, "cut", "y", name(1), frames("a")+"torn", "new", "x")
}

// P10.2: where it is worth it, a log has fewer bytes after compacting; where it is not, it has not.
func TestWorthIsTrue(t *testing.T) {
	r := rand.New(rand.NewPCG(25, 26))
	seen := map[bool]int{}
	for range 500 {
		var before, after []string
		for range r.IntN(8) {
			before = append(before, strings.Repeat("b", 1+r.IntN(12)))
		}
		for range r.IntN(8) {
			after = append(after, strings.Repeat("a", 1+r.IntN(12)))
		}
		d, l := logged(t, 1000, before...)
		used, worth := d.Used(), trim.Worth(d, bytesOf(after...)...)
		compacts(t, d, l, 20, after...)
		if worth != (d.Used() < used) {
			t.Errorf("Worth is %v, but %d bytes became %d", worth, used, d.Used())
		}
		seen[worth]++
	}
	if seen[true] < 100 || seen[false] < 100 {
		t.Errorf("seen: %v", seen)
	}
}
