package segment_test

import (
	"fmt"
	"math"
	"math/rand/v2"
	"regexp"
	"slices"
	"strconv"
	"strings"
	"testing"

	"clockwork/segment"
)

func newRandom() *rand.Rand { return rand.New(rand.NewPCG(13, 14)) }

// someNumbers are numbers of segments: the first and the last ones, and some with each count of digits.
func someNumbers() []int {
	var l []int
	for n := 1; n <= 2000; n++ {
		l = append(l, n, segment.Last+1-n)
	}
	for power := 1; power <= segment.Last; power *= 10 {
		for digit := 1; digit <= 9; digit++ {
			l = append(l, power*digit, power*digit+power/3)
		}
		l = append(l, 10*power-1)
	}
	l = append(l, 12345678, 87654321, 10203040, 1020304)
	r := newRandom()
	for range 2000 {
		l = append(l, 1+r.IntN(segment.Last))
	}
	return l
}

// noNumbers are numbers of no segments.
func noNumbers() []int {
	l := []int{0, -1, -2, -7, -segment.Last, segment.Last + 1, segment.Last + 2, 10 * segment.Last, 1e9, -1e9}
	for _, n := range []int{1, 5, segment.Last} {
		l = append(l, n+1e8, n-1e8-1, -n)
	}
	return append(l, math.MaxInt32, math.MinInt32, math.MaxInt, math.MaxInt-1, math.MinInt, math.MinInt+1)
}

// noNames are names of no segments.
func noNames() []string {
	l := []string{
		"", "l", "log", "log-", "log-0", "log-1", "log-0000001", "log-9999999", "log-000000001", "log-100000000",
		"log-123456789", "log-000000000", "log-00000000", "00000001", "-00000001", "og-00000001", "log00000001",
		"log_00000001", "log--0000001", "log-+0000001", "log-0000000-", "log- 0000001", "log-0000001 ", "log-       1",
		" log-00000001", "log-00000001 ", "log-00000001\n", "log-00000001\x00", "\x00log-00000001", "xlog-00000001",
		"log-00000001x", "log-00000001.log", "log-00000001log-00000001", "LOG-00000001", "Log-00000001", "lag-00000001",
		"gol-00000001", "log-0000000a", "log-a0000000", "log-0000A000", "log-0x000001", "log-0000_001", "log-0000.001",
		"log-0000,001", "log-00000e01", "log-0000000/", "log-0000000:", "log-/0000000", "log-:0000000", "log-000/0000",
		"log-000:0000", "cut", "new", "log-\x00\x00\x00\x00\x00\x00\x00\x01",
		// Bytes beyond ASCII, as many as there are digits, and as many runes as there are digits.
		"log-000000\u00e9", "log-\u00e9000001", "log-000\u00e9001", "log-00000\u00e91", "log-0000000\u00e9",
		"log-00000\u20ac", "log-0000\U0001F600", "log-\u00e9\u00e9\u00e9\u00e9", "log-00000001\u00e9",
		"log-\u00e9\u00e9\u00e9\u00e9\u00e9\u00e9\u00e9\u00e9", "\u00e9log-00000001", "l\u00f6g-00000001",
		"log\u201300000001", "log-\u0660\u0660\u0660\u0661", "log-0000000\u0661", "log-000000\u0661",
		"log-00000\uff11", "log-0000000\uff11", "log-\uff110000000", "log-00000\ufffd", "log-000000\u00b9",
		"log-0000001\u0300", "log-\u0130000000", "log-000000\u0131", "log-0000\U0001D7CF", "\ufefflog-00000001",
		// Bytes that are no valid UTF-8.
		"log-0000000\x80", "log-\x800000001", "log-000\xFF0001", "log-000000\xC3\x28", "log-000000\xC0\xB1",
		"log-00000\xED\xA0\x80", "log-0000\xF8\x88\x80\x80", "log-\xFF\xFF\xFF\xFF\xFF\xFF\xFF\xFF", "log-0000000\xB1",
		"log-0000000\xC3", "log-0000000\xFE", "log-0000001\xB0", "\xFFlog-00000001", "log-00000001\xFF",
		"l\xF8g-00000001", "log\xAD00000001", "log-00000001\x80", "log-000000\xEF\xBC", "log-00000\xEF\xBC\x91",
	}
	return append(l, strings.Repeat("log-", 3), strings.Repeat("0", 12), "log-"+strings.Repeat("0", 1000)+"1")
}

// P7.1: names that are written out.
func TestNameKnown(t *testing.T) {
	for _, c := range []struct {
		n    int
		name string
	}{
		{1, "log-00000001"},
		{7, "log-00000007"},
		{9, "log-00000009"},
		{10, "log-00000010"},
		{99, "log-00000099"},
		{100, "log-00000100"},
		{305, "log-00000305"},
		{1234, "log-00001234"},
		{50000, "log-00050000"},
		{654321, "log-00654321"},
		{9999999, "log-09999999"},
		{10000000, "log-10000000"},
		{12345678, "log-12345678"},
		{90807060, "log-90807060"},
		{99999998, "log-99999998"},
		{99999999, "log-99999999"},
		{segment.Last, "log-99999999"},
	} {
		if got, ok := segment.Name(c.n); got != c.name || !ok {
			t.Errorf("Name(%d) = %q, %v, want %q", c.n, got, ok, c.name)
		}
		if got, ok := segment.Number(c.name); got != c.n || !ok {
			t.Errorf("Number(%q) = %d, %v, want %d", c.name, got, ok, c.n)
		}
	}
}

// P7.1: the definition, for numbers of each count of digits.
func TestNameDefinition(t *testing.T) {
	for _, n := range someNumbers() {
		want := fmt.Sprintf("log-%08d", n)
		if got, ok := segment.Name(n); got != want || !ok {
			t.Errorf("Name(%d) = %q, %v, want %q", n, got, ok, want)
		}
		if got, ok := segment.Number(want); got != n || !ok {
			t.Errorf("Number(%q) = %d, %v, want %d", want, got, ok, n)
		}
	}
}

// P7.1: Name refuses numbers that are out of range.
func TestNameOutOfRange(t *testing.T) {
	for _, n := range noNumbers() {
		if got, ok := segment.Name(n); got != "" || ok {
			t.Errorf("Name(%d) = %q, %v", n, got, ok)
		}
	}
}

// P7.1: Number refuses names of no segments.
func TestNumberOfNone(t *testing.T) {
	for _, name := range noNames() {
		if got, ok := segment.Number(name); got != 0 || ok {
			t.Errorf("Number(%q) = %d, %v", name, got, ok)
		}
	}
}

var isLikeName = regexp.MustCompile(`^log-[0-9]{8}$`).MatchString

// slowNumber finds the number of a segment as the chapter says it.
func slowNumber(name string) (int, bool) {
	if !isLikeName(name) {
		return 0, false
	}
	n, err := strconv.Atoi(name[4:])
	return n, err == nil && n > 0
}

// P7.1: Number refuses a name with any other byte at any place, and any beginning and any end of a name.
func TestNumberChanged(t *testing.T) {
	for _, n := range []int{1, 10000000, 12345678, segment.Last} {
		name := fmt.Sprintf("log-%08d", n)
		for i := range len(name) {
			for b := range 256 {
				changed := []byte(name)
				changed[i] = byte(b)
				want, isName := slowNumber(string(changed))
				if got, ok := segment.Number(string(changed)); got != want || ok != isName {
					t.Errorf("Number(%q) = %d, %v, want %d, %v", changed, got, ok, want, isName)
				}
			}
			if got, ok := segment.Number(name[:i]); got != 0 || ok {
				t.Errorf("Number(%q) = %d, %v", name[:i], got, ok)
			}
			if got, ok := segment.Number(name[i+1:]); got != 0 || ok {
				t.Errorf("Number(%q) = %d, %v", name[i+1:], got, ok)
			}
		}
	}
}

// P7.2: lists that are written out.
func TestListKnown(t *testing.T) {
	for _, c := range []struct {
		names []string
		want  []int
	}{
		{nil, nil},
		{[]string{}, nil},
		{[]string{""}, nil},
		{[]string{"cut", "new", "log"}, nil},
		{[]string{"log-00000007"}, []int{7}},
		{[]string{"log-00000001", "log-99999999"}, []int{1, segment.Last}},
		{[]string{"log-99999999", "log-00000001"}, []int{1, segment.Last}},
		{[]string{"log-00000007", "log-00000007"}, []int{7}},
		{[]string{"log-00000007", "cut", "log-00000007"}, []int{7}},
		{[]string{"log-00000003", "log-00000001", "log-00000002"}, []int{1, 2, 3}},
		{[]string{"log-00000010", "log-00000009", "log-00000100"}, []int{9, 10, 100}},
		{[]string{"log-00000002", "log-00000001", "log-00000002", "log-00000001", "log-00000002"}, []int{1, 2}},
		{[]string{"log-00000005", "log-00000000", "log-5", "log-00000004", "log-00000004x"}, []int{4, 5}},
		{[]string{"log-000000001", "log-0000002", "log-00000003", "log-\xFF0000004"}, []int{3}},
	} {
		if got := segment.List(c.names...); !slices.Equal(got, c.want) {
			t.Errorf("List(%q) = %d, want %d", c.names, got, c.want)
		}
	}
}

// P7.2: List leaves out the names of no segments.
func TestListOfNone(t *testing.T) {
	if got := segment.List(noNames()...); len(got) != 0 {
		t.Errorf("List(names of no segments) = %d", got)
	}
	for _, name := range noNames() {
		if got := segment.List(name); len(got) != 0 {
			t.Errorf("List(%q) = %d", name, got)
		}
		if got := segment.List("log-00000002", name, "log-00000001", name); !slices.Equal(got, []int{1, 2}) {
			t.Errorf("List(.., %q, ..) = %d", name, got)
		}
	}
}

// P7.2: the definition, for random names.
func TestListRandom(t *testing.T) {
	r := newRandom()
	numbers, others := someNumbers(), noNames()
	for range 1000 {
		var names []string
		there := map[int]bool{}
		few := 1 + r.IntN(len(numbers))
		for range r.IntN(30) {
			if r.IntN(3) == 0 {
				names = append(names, others[r.IntN(len(others))])
				continue
			}
			n := numbers[r.IntN(few)]
			names = append(names, fmt.Sprintf("log-%08d", n))
			there[n] = true
		}
		var want []int
		for n := range there {
			want = append(want, n)
		}
		slices.Sort(want)
		if got := segment.List(names...); !slices.Equal(got, want) {
			t.Fatalf("List(%q) = %d, want %d", names, got, want)
		}
	}
}

// lists are lists of numbers with their gaps and the next numbers.
func lists() []struct {
	l         []int
	gap, next int
} {
	const last = segment.Last
	return []struct {
		l         []int
		gap, next int
	}{
		{nil, 0, 1},
		{[]int{}, 0, 1},
		{[]int{1}, 0, 2},
		{[]int{5}, 0, 6},
		{[]int{5, 5, 5}, 0, 6},
		{[]int{1, 2}, 0, 3},
		{[]int{2, 1}, 0, 3},
		{[]int{3, 1, 2}, 0, 4},
		{[]int{7, 8, 9, 10}, 0, 11},
		{[]int{10, 8, 9, 7, 8}, 0, 11},
		{[]int{1, 3}, 2, 4},
		{[]int{3, 1}, 2, 4},
		{[]int{3, 1, 3, 1}, 2, 4},
		{[]int{5, 7}, 6, 8},
		{[]int{9, 5, 7}, 6, 10},
		{[]int{5, 6, 9}, 7, 10},
		{[]int{1, 2, 3, 5, 6, 9}, 4, 10},
		{[]int{4, 1, 2, 2}, 3, 5},
		{[]int{2, 2, 4}, 3, 5},
		{[]int{1, 100}, 2, 101},
		{[]int{100, 1}, 2, 101},
		{[]int{1, 9, 3}, 2, 10},
		{[]int{1, last}, 2, 0},
		{[]int{last}, 0, 0},
		{[]int{last, last}, 0, 0},
		{[]int{last - 1}, 0, last},
		{[]int{last, last - 1}, 0, 0},
		{[]int{last, last - 2}, last - 1, 0},
		{[]int{last - 3, last - 1}, last - 2, last},
	}
}

// otherLists are lists with numbers of no segments among them.
func otherLists() []struct {
	l         []int
	gap, next int
} {
	const last, most, least = segment.Last, math.MaxInt, math.MinInt
	return []struct {
		l         []int
		gap, next int
	}{
		{[]int{0}, 0, 1},
		{[]int{0, 0}, 0, 1},
		{[]int{-1}, 0, 0},
		{[]int{-2}, 0, 0},
		{[]int{0, -1}, 0, 1},
		{[]int{-1, 1}, 0, 2},
		{[]int{0, 1, 2}, 0, 3},
		{[]int{0, 2}, 1, 3},
		{[]int{-5, 3}, -4, 4},
		{[]int{3, -5}, -4, 4},
		{[]int{-3, -1, -7}, -6, 0},
		{[]int{-2, -3}, 0, 0},
		{[]int{-2, 0, -1, 3}, 1, 4},
		{[]int{last + 1}, 0, 0},
		{[]int{last, last + 1}, 0, 0},
		{[]int{last, last + 2}, last + 1, 0},
		{[]int{5, last + 7}, 6, 0},
		{[]int{most}, 0, 0},
		{[]int{most, most}, 0, 0},
		{[]int{most, most - 1}, 0, 0},
		{[]int{most, most - 2}, most - 1, 0},
		{[]int{least}, 0, 0},
		{[]int{least, least + 1}, 0, 0},
		{[]int{least + 2, least}, least + 1, 0},
		{[]int{least, most}, least + 1, 0},
		{[]int{most, least}, least + 1, 0},
		{[]int{most, least, least + 1, most}, least + 2, 0},
		{[]int{least, 1}, least + 1, 2},
		{[]int{1, 2, most}, 3, 0},
		{[]int{most, 0}, 1, 0},
	}
}

// P7.3: lists with and without gaps, in any order.
func TestGapKnown(t *testing.T) {
	for _, c := range append(lists(), otherLists()...) {
		if got := segment.Gap(c.l...); got != c.gap {
			t.Errorf("Gap(%d) = %d, want %d", c.l, got, c.gap)
		}
	}
}

// P7.3: the number behind the greatest one, or none.
func TestNextKnown(t *testing.T) {
	for _, c := range append(lists(), otherLists()...) {
		if got, ok := segment.Next(c.l...); got != c.next || ok != (c.next != 0) {
			t.Errorf("Next(%d) = %d, %v, want %d", c.l, got, ok, c.next)
		}
	}
}

// slowGap tries the numbers from low on.
func slowGap(l []int, low, high int) int {
	for n := low; n <= high; n++ {
		less := func(k int) bool { return k < n }
		greater := func(k int) bool { return k > n }
		if !slices.Contains(l, n) && slices.ContainsFunc(l, less) && slices.ContainsFunc(l, greater) {
			return n
		}
	}
	return 0
}

// P7.3: the definitions, for random lists of numbers that are near to each other.
func TestGapAndNextRandom(t *testing.T) {
	r := newRandom()
	for range 20000 {
		low := []int{1, 1, 5, 1000, segment.Last - 10, -10, -4, math.MaxInt - 12}[r.IntN(8)]
		l := make([]int, r.IntN(12))
		for i := range l {
			l[i] = low + r.IntN(1+r.IntN(12))
		}
		if got, want := segment.Gap(l...), slowGap(l, low, low+11); got != want {
			t.Fatalf("Gap(%d) = %d, want %d", l, got, want)
		}
		want := 1
		for i, n := range l {
			if i == 0 || n+1 > want {
				want = n + 1
			}
		}
		isNumber := 1 <= want && want <= segment.Last
		if !isNumber {
			want = 0
		}
		if got, ok := segment.Next(l...); got != want || ok != isNumber {
			t.Fatalf("Next(%d) = %d, %v, want %d, %v", l, got, ok, want, isNumber)
		}
	}
}

// P7.3: many numbers, of which one at any place is missing.
func TestGapAnywhere(t *testing.T) {
	const count = 200
	for missing := range count {
		var l []int
		for n := range count {
			if n != missing {
				l = append(l, 7+n)
			}
		}
		newRandom().Shuffle(len(l), func(i, k int) { l[i], l[k] = l[k], l[i] })
		want := 7 + missing
		if missing == 0 || missing == count-1 {
			want = 0
		}
		if got := segment.Gap(l...); got != want {
			t.Errorf("Gap(7 to 206 without %d) = %d, want %d", 7+missing, got, want)
		}
	}
}

// P7.4: Number inverts Name.
func TestNumberInvertsName(t *testing.T) {
	for _, n := range someNumbers() {
		name, ok := segment.Name(n)
		if !ok {
			t.Fatalf("Name(%d) refuses it", n)
		}
		if got, ok := segment.Number(name); got != n || !ok {
			t.Errorf("Number(Name(%d)) = %d, %v", n, got, ok)
		}
	}
}

// P7.4: Name inverts Number; no two names have the same number.
func TestNameInvertsNumber(t *testing.T) {
	r := newRandom()
	letters := "0123456789-log"
	for range 100000 {
		b := []byte("log-00000000")
		for range r.IntN(12) {
			b[r.IntN(len(b))] = letters[r.IntN(10+r.IntN(5))]
		}
		n, ok := segment.Number(string(b))
		if !ok {
			continue
		}
		if name, ok := segment.Name(n); name != string(b) || !ok {
			t.Fatalf("Name(Number(%q)) = %q, %v", b, name, ok)
		}
	}
}

// P7.4: names are ordered as their numbers are.
func TestNamesOrdered(t *testing.T) {
	numbers := someNumbers()
	slices.Sort(numbers)
	numbers = slices.Compact(numbers)
	for i := 1; i < len(numbers); i++ {
		a, _ := segment.Name(numbers[i-1])
		b, _ := segment.Name(numbers[i])
		if a >= b {
			t.Errorf("Name(%d) = %q, Name(%d) = %q", numbers[i-1], a, numbers[i], b)
		}
	}
}

// Rule 4: the arguments are not changed, and a result shares no memory with that of another call.
func TestMemory(t *testing.T) {
	numbers, names := []int{9, 3, 3, 5}, []string{"log-00000002", "cut", "log-00000001", "log-00000002"}
	oldNumbers, oldNames := slices.Clone(numbers), slices.Clone(names)
	first, second := segment.List(names...), segment.List(names...)
	segment.Gap(numbers...)
	segment.Next(numbers...)
	if !slices.Equal(numbers, oldNumbers) || !slices.Equal(names, oldNames) {
		t.Errorf("changed: %d, %q", numbers, names)
	}
	first[0] = 77
	if third := segment.List(names...); !slices.Equal(second, []int{1, 2}) || !slices.Equal(third, []int{1, 2}) {
		t.Errorf("List shares memory: %d, %d", second, third)
	}
	if got := segment.Gap(numbers[:2]...); got != 4 || !slices.Equal(numbers, oldNumbers) {
		t.Errorf("Gap goes beyond its argument: %d, %d", got, numbers)
	}
	if got := segment.List(names[:2]...); !slices.Equal(got, []int{2}) || !slices.Equal(names, oldNames) {
		t.Errorf("List goes beyond its argument: %d, %q", got, names)
	}
}
