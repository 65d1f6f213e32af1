package retry_test

import (
	"fmt"
	"math"
	"math/big"
	"math/rand/v2"
	"testing"

	"clockwork/num"
	"clockwork/retry"
)

// factors returns numbers of all kinds.
func factors() []float64 {
	fs := []float64{math.NaN(), math.Float64frombits(math.MaxUint64)}
	for _, f := range []float64{
		0, math.SmallestNonzeroFloat64, 0.1, 0.5, 0.999, math.Nextafter(1, 0), 1, math.Nextafter(1, 2), 1.001, 1.5, 2, 3, 10,
		1 << 32, 1 << 53, 1 << 63, 1 << 64, math.MaxFloat64, math.Inf(1),
	} {
		fs = append(fs, f, -f)
	}
	return append(fs, math.Copysign(0, -1))
}

// policies returns valid policies, in which edges of all fields meet, and random ones.
func policies() []retry.Policy {
	var l []retry.Policy
	ticks := []uint64{0, 1, 2, 3, 10, 1000, 1<<53 - 1, 1<<53 + 1, 1 << 62, maxTick - 1000, maxTick}
	for _, f := range factors() {
		for i, wait := range ticks {
			for k, limit := range ticks {
				l = append(l, retry.Policy{Most: 1 + (11*i+k)*17%100, Wait: wait, Factor: f, Limit: limit, Timeout: ticks[(i+k)%11]})
			}
		}
	}
	r := rand.New(rand.NewPCG(19, 56))
	tick := func() uint64 { return r.Uint64() >> (1 + r.IntN(63)) }
	for range 3000 {
		f := r.Float64() * 4
		if r.IntN(4) == 0 {
			f = math.Float64frombits(r.Uint64())
		}
		l = append(l, retry.Policy{Most: 1 + r.IntN(100), Wait: tick(), Factor: f, Limit: tick(), Timeout: tick()})
	}
	return l
}

// slowDelays returns the delays after the attempts 1 to 100, as the chapter says them.
func slowDelays(p retry.Policy) []uint64 {
	l := []uint64{p.Wait}
	if p.Limit < p.Wait {
		l[0] = p.Limit
	}
	for len(l) < 100 {
		next := num.Scale(l[len(l)-1], p.Factor)
		if p.Limit < next {
			next = p.Limit
		}
		l = append(l, next)
	}
	return l
}

// slowSum returns the sum of some ticks, for each of which at least 1 counts, but at most the greatest tick.
func slowSum(first uint64, more ...uint64) uint64 {
	sum := new(big.Int).SetUint64(first)
	for _, ticks := range more {
		if ticks == 0 {
			ticks = 1
		}
		sum.Add(sum, new(big.Int).SetUint64(ticks))
	}
	if !sum.IsUint64() || sum.Uint64() > maxTick {
		return maxTick
	}
	return sum.Uint64()
}

// checkAttempts compares what a policy says of all attempts with the definition.
func checkAttempts(t *testing.T, p retry.Policy, delays []uint64, now uint64) {
	t.Helper()
	for i, want := range delays {
		n := i + 1
		if got := retry.Delay(p, n); got != want {
			t.Fatalf("Delay of %v after the attempt %d: %d, want %d", p, n, got, want)
		}
		at, ok := retry.Next(p, n, now)
		if n >= p.Most && (at != 0 || ok) {
			t.Fatalf("Next(%v, %d, %d) = %d, %v, want none", p, n, now, at, ok)
		}
		if next := slowSum(now, want); n < p.Most && (at != next || !ok) {
			t.Fatalf("Next(%v, %d, %d) = %d, %v, want %d", p, n, now, at, ok, next)
		}
	}
}

// P19.1 to P19.5: the definitions, for policies of all kinds.
func TestDefinition(t *testing.T) {
	r := rand.New(rand.NewPCG(56, 19))
	for _, p := range policies() {
		if !retry.Valid(p) {
			t.Fatalf("%v is not valid", p)
		}
		delays := slowDelays(p)
		now := r.Uint64() >> (1 + r.IntN(63))
		checkAttempts(t, p, delays, now)
		if got, want := retry.Deadline(p, now), slowSum(now, p.Timeout); got != want {
			t.Fatalf("Deadline(%v, %d) = %d, want %d", p, now, got, want)
		}
		if got, want := retry.Total(p), slowSum(0, delays[:p.Most-1]...); got != want {
			t.Fatalf("Total(%v) = %d, want %d", p, got, want)
		}
		want := fmt.Sprintf("%d/%d/%s/%d/%d", p.Most, p.Wait, num.Text(p.Factor), p.Limit, p.Timeout)
		if got := retry.Text(p); got != want {
			t.Fatalf("Text(%v) = %q, want %q", p, got, want)
		}
	}
}
