package retry_test

import (
	"math"
	"slices"
	"testing"

	"clockwork/retry"
)

const maxTick = 1<<63 - 1

// growing returns a policy with the greatest number of attempts, for which only the delays matter.
func growing(wait uint64, factor float64, limit uint64) retry.Policy {
	return retry.Policy{Most: 100, Wait: wait, Factor: factor, Limit: limit}
}

// invalid returns policies that are not valid, with their names.
func invalid() map[string]retry.Policy {
	l := map[string]retry.Policy{"nothing": {}, "everything": {Most: -1, Wait: 1 << 63, Limit: 1 << 63, Timeout: 1 << 63}}
	add := func(name string, change func(*retry.Policy)) {
		p := retry.Policy{Most: 5, Wait: 7, Factor: 1.5, Limit: 50, Timeout: 9}
		change(&p)
		l[name] = p
	}
	add("no attempt", func(p *retry.Policy) { p.Most = 0 })
	add("less than no attempt", func(p *retry.Policy) { p.Most = -1 })
	add("the least number of attempts", func(p *retry.Policy) { p.Most = math.MinInt })
	add("too many attempts", func(p *retry.Policy) { p.Most = 101 })
	add("the greatest number of attempts", func(p *retry.Policy) { p.Most = math.MaxInt })
	add("Most that has 5 in its lowest bits", func(p *retry.Policy) { p.Most = 1<<32 + 5 })
	for name, ticks := range map[string]uint64{"2^63": 1 << 63, "2^64 - 1": math.MaxUint64} {
		add("Wait "+name, func(p *retry.Policy) { p.Wait = ticks })
		add("Limit "+name, func(p *retry.Policy) { p.Limit = ticks })
		add("Timeout "+name, func(p *retry.Policy) { p.Timeout = ticks })
	}
	return l
}

// P19.1: what Default returns.
func TestDefault(t *testing.T) {
	want := retry.Policy{Most: 3, Wait: 2, Factor: 2, Limit: 100, Timeout: 10}
	if got := retry.Default(); got != want || !retry.Valid(got) {
		t.Errorf("Default() = %v, want %v", got, want)
	}
	if retry.Attempts != 100 {
		t.Errorf("Attempts is %d", retry.Attempts)
	}
}

// P19.1: the bounds of all fields are valid, and the Factor may be any number.
func TestValid(t *testing.T) {
	for _, p := range []retry.Policy{
		{Most: 1}, {Most: 2}, {Most: 99}, {Most: 100},
		{Most: 1, Wait: maxTick}, {Most: 1, Limit: maxTick}, {Most: 1, Timeout: maxTick},
		{Most: 100, Wait: maxTick, Limit: maxTick, Timeout: maxTick},
		{Most: 1, Wait: 5, Limit: 3}, {Most: 1, Limit: 3, Timeout: 2},
	} {
		for _, f := range factors() {
			if p.Factor = f; !retry.Valid(p) {
				t.Errorf("%v is not valid", p)
			}
		}
	}
	for name, p := range invalid() {
		for _, f := range factors() {
			if p.Factor = f; retry.Valid(p) {
				t.Errorf("%s: %v is valid", name, p)
			}
		}
	}
}

// P19.2: the example of the chapter.
func TestDefaultDelays(t *testing.T) {
	for i, want := range []uint64{2, 4, 8, 16, 32, 64, 100, 100, 100} {
		if got := retry.Delay(retry.Default(), i+1); got != want {
			t.Errorf("Delay after the attempt %d: %d, want %d", i+1, got, want)
		}
	}
}

// P19.2: the first delays of known policies.
func TestDelayKnown(t *testing.T) {
	for _, c := range []struct {
		wait   uint64
		factor float64
		limit  uint64
		want   []uint64
	}{
		{10, 1, 1000, []uint64{10, 10, 10, 10}},
		{10, 0.5, 1000, []uint64{10, 5, 2, 1, 0, 0}}, // rounded down in each step
		{10, 1.25, 1000, []uint64{10, 12, 15, 18, 22}},
		{1, 1.5, 1000, []uint64{1, 1, 1}}, // rounded down, it stays
		{10, 0, 1000, []uint64{10, 0, 0}},
		{10, math.Copysign(0, -1), 1000, []uint64{10, 0, 0}},
		{10, -3, 1000, []uint64{10, 0, 0}}, // and not 90 after the attempt 3
		{10, math.NaN(), 1000, []uint64{10, 0, 0}},
		{10, math.Inf(1), 1000, []uint64{10, 1000, 1000}},
		{10, math.Inf(-1), 1000, []uint64{10, 0, 0}},
		{10, math.MaxFloat64, maxTick, []uint64{10, maxTick, maxTick}},
		{0, 2, 1000, []uint64{0, 0, 0}}, // nothing grows from no ticks
		{0, math.Inf(1), 1000, []uint64{0, 0, 0}},
		{10, 2, 0, []uint64{0, 0, 0}},
		{10, math.Inf(1), 0, []uint64{0, 0, 0}},
		{50, 2, 20, []uint64{20, 20, 20}},  // the Limit is less than Wait
		{50, 0.5, 20, []uint64{20, 10, 5}}, // and the next ones begin with it
		{19, 2, 20, []uint64{19, 20, 20}},
		{20, 2, 20, []uint64{20, 20, 20}},
		{5, 2, 20, []uint64{5, 10, 20, 20}}, // exactly the Limit
		{5, 2, 19, []uint64{5, 10, 19, 19}},
		{maxTick, 1, maxTick, []uint64{maxTick, maxTick}},
		{maxTick, 2, maxTick, []uint64{maxTick, maxTick}},
		{maxTick, 0.5, maxTick, []uint64{maxTick, 1 << 62, 1 << 61}},
		{1 << 61, 2, maxTick, []uint64{1 << 61, 1 << 62, maxTick, maxTick}},
	} {
		p := growing(c.wait, c.factor, c.limit)
		for i, want := range c.want {
			if got := retry.Delay(p, i+1); got != want {
				t.Errorf("Delay of %v after the attempt %d: %d, want %d", p, i+1, got, want)
			}
		}
	}
}

// P19.2: only attempts from 1 to 100 have delays, whatever Most is.
func TestDelayNumbers(t *testing.T) {
	for _, most := range []int{1, 2, 100} {
		p := retry.Policy{Most: most, Wait: 7, Factor: 1, Limit: 7}
		for _, n := range []int{math.MinInt, math.MinInt32, -100, -1, 0, 101, 102, 1 << 32, 1<<32 + 1, math.MaxInt} {
			if got := retry.Delay(p, n); got != 0 {
				t.Errorf("Delay of %v after the attempt %d: %d", p, n, got)
			}
		}
		for n := 1; n <= 100; n++ {
			if got := retry.Delay(p, n); got != 7 {
				t.Errorf("Delay of %v after the attempt %d: %d", p, n, got)
			}
		}
	}
}

// P19.2: the delay of the last attempts, which 99 steps lead to.
func TestDelayLast(t *testing.T) {
	p := growing(1000, 1.0009765625, maxTick)
	want := uint64(1000)
	for n := 1; n <= 100; n++ {
		if got := retry.Delay(p, n); got != want {
			t.Errorf("Delay after the attempt %d: %d, want %d", n, got, want)
		}
		want = uint64(float64(want) * p.Factor)
	}
	if got := retry.Delay(growing(1, 2, maxTick), 63); got != 1<<62 {
		t.Errorf("Delay after the attempt 63: %d", got)
	}
	if got := retry.Delay(growing(1, 2, maxTick), 64); got != maxTick {
		t.Errorf("Delay after the attempt 64: %d", got)
	}
}

// P19.3: the tick of the next attempt, which is later than now.
func TestNext(t *testing.T) {
	p := retry.Default()
	for _, c := range []struct {
		p    retry.Policy
		n    int
		now  uint64
		want uint64
	}{
		{p, 1, 0, 2}, {p, 1, 50, 52}, {p, 2, 50, 54},
		{growing(0, 1, 10), 1, 7, 8}, {growing(10, 1, 0), 1, 7, 8}, // there is no delay, but one tick
		{growing(1, 1, 10), 1, 7, 8}, {growing(2, 1, 10), 1, 7, 9},
		{growing(10, math.NaN(), 10), 2, 7, 8}, {growing(10, 0.5, 10), 99, 7, 8},
		{p, 1, maxTick - 3, maxTick - 1}, {p, 1, maxTick - 2, maxTick}, {p, 1, maxTick - 1, maxTick}, {p, 2, maxTick, maxTick},
		{growing(0, 1, 0), 1, maxTick - 1, maxTick}, {growing(0, 1, 0), 1, maxTick, maxTick},
		{growing(maxTick, 1, maxTick), 1, 0, maxTick}, {growing(maxTick, 1, maxTick), 1, 1, maxTick},
		{growing(maxTick, 1, maxTick), 99, maxTick, maxTick},
	} {
		if got, ok := retry.Next(c.p, c.n, c.now); got != c.want || !ok {
			t.Errorf("Next(%v, %d, %d) = %d, %v, want %d", c.p, c.n, c.now, got, ok, c.want)
		}
	}
}

// P19.3: an attempt has a next one, if there is this attempt and it is not the last one.
func TestNextNumbers(t *testing.T) {
	for _, most := range []int{1, 2, 3, 99, 100} {
		p := retry.Policy{Most: most, Wait: 7, Factor: 1, Limit: 7}
		for n := -2; n <= 103; n++ {
			at, ok := retry.Next(p, n, 5)
			if want := 1 <= n && n < most; ok != want || want && at != 12 || !want && at != 0 {
				t.Errorf("Next(%v, %d, 5) = %d, %v", p, n, at, ok)
			}
		}
		for _, n := range []int{math.MinInt, math.MinInt32, 1<<32 + 1, math.MaxInt} {
			if at, ok := retry.Next(p, n, 5); at != 0 || ok {
				t.Errorf("Next(%v, %d, 5) = %d, %v", p, n, at, ok)
			}
		}
	}
}

// P19.3: the deadline is later than now.
func TestDeadline(t *testing.T) {
	for _, c := range []struct{ timeout, now, want uint64 }{
		{10, 0, 10}, {10, 7, 17}, {0, 0, 1}, {0, 7, 8}, {1, 7, 8}, {2, 7, 9},
		{0, maxTick - 1, maxTick}, {0, maxTick, maxTick}, {10, maxTick, maxTick}, {10, maxTick - 10, maxTick},
		{10, maxTick - 11, maxTick - 1}, {10, maxTick - 9, maxTick},
		{maxTick, 0, maxTick}, {maxTick, maxTick, maxTick}, {maxTick - 1, 0, maxTick - 1}, {maxTick - 1, 1, maxTick},
		{1 << 63, 0, maxTick}, {math.MaxUint64, 0, maxTick}, {math.MaxUint64, 1, maxTick}, {math.MaxUint64, maxTick, maxTick},
	} {
		for _, most := range []int{-1, 0, 1, 100, 101} {
			p := retry.Policy{Most: most, Wait: 3, Factor: 4, Limit: 5, Timeout: c.timeout}
			if got := retry.Deadline(p, c.now); got != c.want {
				t.Errorf("Deadline(%v, %d) = %d, want %d", p, c.now, got, c.want)
			}
		}
	}
}

// P19.3: policies that are not valid have deadlines, too.
func TestDeadlineNotValid(t *testing.T) {
	for name, p := range invalid() {
		want := uint64(maxTick)
		if p.Timeout < 1<<63 {
			want = 5 + max(1, p.Timeout)
		}
		if got := retry.Deadline(p, 5); got != want {
			t.Errorf("%s: Deadline(%v, 5) = %d, want %d", name, p, got, want)
		}
	}
}

// P19.4: known sums.
func TestTotal(t *testing.T) {
	of := func(most int, wait uint64, factor float64, limit uint64) retry.Policy {
		return retry.Policy{Most: most, Wait: wait, Factor: factor, Limit: limit, Timeout: 1000}
	}
	for _, c := range []struct {
		p    retry.Policy
		want uint64
	}{
		{retry.Default(), 6}, {of(1, 7, 2, 100), 0}, {of(2, 7, 2, 100), 7}, {of(3, 7, 2, 100), 21}, {of(4, 7, 2, 20), 41},
		{of(3, 0, 2, 100), 2}, {of(3, 7, 2, 0), 2}, {of(100, 0, 0, 0), 99}, {of(1, 0, 0, 0), 0}, // one tick, if there is no delay
		{of(5, 10, 0.5, 100), 18}, {of(6, 10, 0.5, 100), 19}, {of(4, 10, math.NaN(), 100), 12}, {of(100, 7, 1, 7), 693},
		{of(1, maxTick, 1, maxTick), 0}, {of(2, maxTick, 1, maxTick), maxTick}, {of(3, maxTick, 1, maxTick), maxTick},
		{of(100, maxTick, 1, maxTick), maxTick}, {of(3, 1<<62, 1, maxTick), maxTick}, {of(3, maxTick-1, 0, maxTick), maxTick},
		{of(3, maxTick-2, 0, maxTick), maxTick - 1}, {of(4, 1<<61, 1, maxTick), 3 << 61}, {of(5, 1<<61, 1, maxTick), maxTick},
		{of(64, 1, 2, maxTick), maxTick}, {of(63, 1, 2, maxTick), 1<<62 - 1},
	} {
		if got := retry.Total(c.p); got != c.want {
			t.Errorf("Total(%v) = %d, want %d", c.p, got, c.want)
		}
	}
}

// P19.5: known texts.
func TestText(t *testing.T) {
	for _, c := range []struct {
		p    retry.Policy
		want string
	}{
		{retry.Default(), "3/2/x4000000000000000/100/10"},
		{retry.Policy{Most: 1}, "1/0/0/0/0"},
		{retry.Policy{Most: 10, Wait: 20, Factor: 1, Limit: 300, Timeout: 4000}, "10/20/x3ff0000000000000/300/4000"},
		{retry.Policy{Most: 100, Factor: math.NaN()}, "100/0/nan/0/0"},
		{retry.Policy{Most: 1, Factor: math.Float64frombits(math.MaxUint64)}, "1/0/nan/0/0"},
		{retry.Policy{Most: 1, Factor: math.Inf(1)}, "1/0/inf/0/0"},
		{retry.Policy{Most: 1, Factor: math.Inf(-1)}, "1/0/-inf/0/0"},
		{retry.Policy{Most: 1, Factor: math.Copysign(0, -1)}, "1/0/-0/0/0"},
		{retry.Policy{Most: 1, Factor: -1.5}, "1/0/xbff8000000000000/0/0"},
		{
			retry.Policy{Most: 99, Wait: maxTick, Factor: 0.5, Limit: maxTick - 1, Timeout: maxTick},
			"99/9223372036854775807/x3fe0000000000000/9223372036854775806/9223372036854775807",
		},
	} {
		if got := retry.Text(c.p); got != c.want {
			t.Errorf("Text(%v) = %q, want %q", c.p, got, c.want)
		}
	}
}

// P19.2 to P19.5: a policy that is not valid has no delays, no next attempts, no sum and no text.
func TestNotValid(t *testing.T) {
	for name, p := range invalid() {
		for n := -1; n <= 102; n++ {
			if got := retry.Delay(p, n); got != 0 {
				t.Errorf("%s: Delay after the attempt %d: %d", name, n, got)
			}
			if at, ok := retry.Next(p, n, 5); at != 0 || ok {
				t.Errorf("%s: Next after the attempt %d: %d, %v", name, n, at, ok)
			}
		}
		if total, text := retry.Total(p), retry.Text(p); total != 0 || text != "" {
			t.Errorf("%s: Total %d, Text %q", name, total, text)
		}
	}
}

// P19.6: what follows for the delays of all policies. By their definition, those with a Factor of 1 may get less once, if
// they are greater than 2^53: num.Scale rounds them to a float64.
func TestConsequences(t *testing.T) {
	for _, p := range policies() {
		var l []uint64
		for n := 1; n <= retry.Attempts; n++ {
			l = append(l, retry.Delay(p, n))
		}
		if slices.Max(l) > p.Limit {
			t.Errorf("%v has the delays %v", p, l)
		}
		rounded := p.Factor == 1 && l[0] > 1<<53
		if p.Factor >= 1 && !rounded && !slices.IsSorted(l) {
			t.Errorf("%v has the delays %v, which get less", p, l)
		}
		if math.IsNaN(p.Factor) && slices.Max(l[1:]) > 0 {
			t.Errorf("%v has the delays %v", p, l)
		}
	}
}

// P19.2: the product with a Factor of 1 is a float64, too.
func TestGreatTicks(t *testing.T) {
	for _, c := range []struct{ limit, second uint64 }{
		{1<<53 + 1, 1 << 53}, {1<<53 + 2, 1<<53 + 2}, {1<<53 + 3, 1<<53 + 3}, {1<<62 + 1, 1 << 62},
		{maxTick - 1, maxTick - 1}, {maxTick - 600, maxTick - 1023},
	} {
		p := growing(maxTick, 1, c.limit)
		for n := 1; n <= 100; n++ {
			want := c.second
			if n == 1 {
				want = c.limit
			}
			if got := retry.Delay(p, n); got != want {
				t.Errorf("Delay of %v after the attempt %d: %d, want %d", p, n, got, want)
			}
		}
	}
}
