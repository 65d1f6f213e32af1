package num_test

import (
	"cmp"
	"fmt"
	"math"
	"math/big"
	"math/rand/v2"
	"slices"
	"strconv"
	"strings"
	"testing"

	"clockwork/api"
	"clockwork/num"
)

const (
	sign     = 1 << 63
	infinity = 0x7FF0000000000000
	theNaN   = 0x7FF8000000000001
	maxTick  = 1<<63 - 1
)

var negativeZero = math.Copysign(0, -1)

func newRandom() *rand.Rand { return rand.New(rand.NewPCG(5, 6)) }

// inOrder returns different numbers in their order, with all edges.
func inOrder() []float64 {
	positive := []float64{
		math.SmallestNonzeroFloat64, 2 * math.SmallestNonzeroFloat64,
		math.Float64frombits(1<<52 - 1), math.Float64frombits(1 << 52), math.Float64frombits(1<<52 + 1),
		1e-300, 0.5, math.Nextafter(1, 0), 1, math.Nextafter(1, 2), 1.5, 2, math.Pi, 10,
		1<<53 - 1, 1 << 53, 1<<53 + 2, 1<<63 - 1024, 1 << 63, 1 << 64, 1e300,
		math.Nextafter(math.MaxFloat64, 0), math.MaxFloat64, math.Inf(1),
	}
	var fs []float64
	for _, f := range slices.Backward(positive) {
		fs = append(fs, -f)
	}
	fs = append(fs, negativeZero, 0)
	return append(append(fs, positive...), math.NaN())
}

// otherNaNs returns bits of NaNs other than the NaN.
func otherNaNs() []uint64 {
	bs := []uint64{
		infinity + 1, infinity + 2, theNaN - 2, theNaN - 1, theNaN + 1, 0x7FFFFFFFFFFFFFFF,
		sign | infinity + 1, sign | theNaN - 1, sign | theNaN, sign | theNaN + 1, math.MaxUint64,
	}
	for i := range 52 {
		bs = append(bs, infinity|1<<i, sign|infinity|1<<i)
	}
	r := newRandom()
	for range 1000 {
		bs = append(bs, infinity|r.Uint64()|1<<r.IntN(52))
	}
	return slices.DeleteFunc(bs, func(b uint64) bool { return b == theNaN })
}

// anyBits returns bits of all kinds: of the edges and their neighbours, of NaNs, and random ones.
func anyBits() []uint64 {
	bs := otherNaNs()
	for _, f := range inOrder() {
		b := math.Float64bits(f)
		bs = append(bs, b-1, b, b+1)
	}
	r := newRandom()
	for range 20000 {
		bs = append(bs, r.Uint64(), r.Uint64()>>r.IntN(64), math.Float64bits(math.Round(r.NormFloat64()*100)))
	}
	return bs
}

// isNaN tells bits of a NaN by the fields of the IEEE 754 form.
func isNaN(b uint64) bool { return b>>52&0x7FF == 0x7FF && b&(1<<52-1) != 0 }

// slowBits are the bits of the number that a float64 with the bits b counts as.
func slowBits(b uint64) uint64 {
	if isNaN(b) {
		return theNaN
	}
	return b
}

// slowText writes the text of a number, as the chapter says it.
func slowText(f float64) string {
	switch {
	case f != f:
		return "nan"
	case f > math.MaxFloat64:
		return "inf"
	case f < -math.MaxFloat64:
		return "-inf"
	case f == 0 && 1/f > 0:
		return "0"
	case f == 0:
		return "-0"
	}
	return fmt.Sprintf("x%016x", math.Float64bits(f))
}

// slowCompare compares as numbers are compared, and tells 0 and -0 by what dividing by them gives.
func slowCompare(a, b float64) int {
	switch {
	case a != a && b != b:
		return 0
	case a != a:
		return 1
	case b != b:
		return -1
	case a == 0 && b == 0:
		return cmp.Compare(1/a, 1/b)
	case a < b:
		return -1
	case a > b:
		return 1
	}
	return 0
}

// P3.1: the bits of known numbers.
func TestBitsKnown(t *testing.T) {
	for _, c := range []struct {
		f    float64
		want uint64
	}{
		{0, 0}, {negativeZero, sign}, {1, 0x3FF0000000000000}, {-1, 0xBFF0000000000000},
		{1.5, 0x3FF8000000000000}, {-2, 0xC000000000000000}, {10, 0x4024000000000000},
		{math.Inf(1), infinity}, {math.Inf(-1), sign | infinity}, {math.NaN(), theNaN},
		{math.SmallestNonzeroFloat64, 1}, {-math.SmallestNonzeroFloat64, sign | 1},
		{math.MaxFloat64, 0x7FEFFFFFFFFFFFFF}, {-math.MaxFloat64, 0xFFEFFFFFFFFFFFFF},
	} {
		if got := num.Bits(c.f); got != c.want {
			t.Errorf("Bits(%v) = %#x, want %#x", c.f, got, c.want)
		}
		if got := math.Float64bits(num.Canon(c.f)); got != c.want {
			t.Errorf("the bits of Canon(%v) are %#x, want %#x", c.f, got, c.want)
		}
		if got, ok := num.Of(c.want); !ok || math.Float64bits(got) != c.want {
			t.Errorf("Of(%#x) = %v, %v", c.want, got, ok)
		}
	}
}

// P3.1: every NaN counts as the NaN, whatever its bits and its sign are; all others stay as they are.
func TestBitsDefinition(t *testing.T) {
	for _, b := range anyBits() {
		f, want := math.Float64frombits(b), slowBits(b)
		if got := num.Bits(f); got != want {
			t.Errorf("Bits of %#x: %#x, want %#x", b, got, want)
		}
		if got := math.Float64bits(num.Canon(f)); got != want {
			t.Errorf("Canon of %#x: %#x, want %#x", b, got, want)
		}
	}
}

// P3.1: NaNs that are computed count as the NaN.
func TestBitsOfComputedNaNs(t *testing.T) {
	zero, inf := 0.0, math.Inf(1)
	for _, f := range []float64{zero / zero, -(zero / zero), inf - inf, zero * inf, math.Sqrt(-1), math.Copysign(math.NaN(), -1)} {
		if num.Bits(f) != theNaN || math.Float64bits(num.Canon(f)) != theNaN || num.Text(f) != "nan" {
			t.Errorf("%#x: Bits %#x, Canon %#x", math.Float64bits(f), num.Bits(f), math.Float64bits(num.Canon(f)))
		}
	}
}

// P3.1: Of knows all bits but those of a NaN other than the NaN.
func TestOf(t *testing.T) {
	for _, b := range otherNaNs() {
		if f, ok := num.Of(b); ok || math.Float64bits(f) != 0 {
			t.Errorf("Of(%#x) = %v, %v", b, f, ok)
		}
	}
	for _, b := range anyBits() {
		if isNaN(b) && b != theNaN {
			continue
		}
		if f, ok := num.Of(b); !ok || math.Float64bits(f) != b {
			t.Errorf("Of(%#x) = %v, %v", b, f, ok)
		}
	}
}

// P3.2: numbers in their order, each of them with each other.
func TestOrder(t *testing.T) {
	fs := inOrder()
	for i, a := range fs {
		for k, b := range fs {
			if got, want := num.Compare(a, b), cmp.Compare(i, k); got != want {
				t.Errorf("Compare(%v, %v) = %d, want %d", a, b, got, want)
			}
			if got, want := num.Same(a, b), i == k; got != want {
				t.Errorf("Same(%v, %v) = %v", a, b, got)
			}
		}
	}
}

// P3.2: all NaNs are the same number, which comes behind all others.
func TestNaNsOrdered(t *testing.T) {
	fs := inOrder()
	for i, b := range otherNaNs() {
		f := math.Float64frombits(b)
		if !num.Same(f, math.NaN()) || num.Compare(f, math.NaN()) != 0 || num.Compare(math.NaN(), f) != 0 {
			t.Errorf("%#x is not the NaN", b)
		}
		other := fs[i%(len(fs)-1)]
		if num.Same(f, other) || num.Same(other, f) || num.Compare(f, other) != 1 || num.Compare(other, f) != -1 {
			t.Errorf("%#x and %v", b, other)
		}
	}
}

// P3.2: the definition, for any numbers and their neighbours.
func TestCompareDefinition(t *testing.T) {
	bs := anyBits()
	r := newRandom()
	check := func(x, y uint64) {
		a, b := math.Float64frombits(x), math.Float64frombits(y)
		if got, want := num.Compare(a, b), slowCompare(a, b); got != want {
			t.Errorf("Compare of %#x and %#x: %d, want %d", x, y, got, want)
		}
		if got, want := num.Same(a, b), slowBits(x) == slowBits(y); got != want {
			t.Errorf("Same of %#x and %#x: %v", x, y, got)
		}
	}
	for _, b := range bs {
		check(b, b)
		check(b, b+1)
		check(b, b-1)
		check(b, b^sign)
		check(b, bs[r.IntN(len(bs))])
	}
}

// P3.3: the texts of known numbers, in both directions.
func TestTextKnown(t *testing.T) {
	for want, f := range map[string]float64{
		"nan": math.NaN(), "inf": math.Inf(1), "-inf": math.Inf(-1), "0": 0, "-0": negativeZero,
		"x3ff0000000000000": 1, "xbff0000000000000": -1, "xc000000000000000": -2, "x4024000000000000": 10,
		"x0000000000000001": math.SmallestNonzeroFloat64, "x8000000000000001": -math.SmallestNonzeroFloat64,
		"x000fffffffffffff": math.Float64frombits(1<<52 - 1), "x0010000000000000": math.Float64frombits(1 << 52),
		"x7fefffffffffffff": math.MaxFloat64, "xffefffffffffffff": -math.MaxFloat64,
		"x400921fb54442d18": math.Pi,
	} {
		if got := num.Text(f); got != want {
			t.Errorf("Text(%v) = %q, want %q", f, got, want)
		}
		if got, ok := num.Parse(want); !ok || math.Float64bits(got) != math.Float64bits(f) {
			t.Errorf("Parse(%q) = %v, %v, want %v", want, got, ok, f)
		}
	}
}

// P3.3: the definition of the text.
func TestTextDefinition(t *testing.T) {
	for _, b := range anyBits() {
		f := math.Float64frombits(b)
		if got, want := num.Text(f), slowText(f); got != want {
			t.Errorf("Text of %#x: %q, want %q", b, got, want)
		}
	}
}

// noTexts returns texts that are the text of no number.
func noTexts() []string {
	return []string{
		"", " ", "-", "--", "+", "x", "-x", ".", "\x00", "\xFF", "é",
		"NaN", "NAN", "Nan", "-nan", "+nan", "nan ", " nan", "na", "nann", "nan\x00", "xnan",
		"Inf", "INF", "+inf", "--inf", "-Inf", "in", "inff", "infinity", "-infinity", "- inf", "inf-", "∞",
		"00", "+0", "--0", "-00", "0 ", " 0", "- 0", "0.0", "0-", "-0.0", "x-0", "0x0", "𝟎",
		"1", "-1", "10", "1.5", "1e3", "0x1p0", "-x3ff0000000000000", "+x3ff0000000000000",
		"3ff0000000000000", "03ff0000000000000", "0x3ff0000000000000", // no x in front, or something else
		"x0", "x1", "x3ff", "x3ff000000000000", "x000000000000001", // too short
		"x3ff00000000000000", "x03ff0000000000000", "x00000000000000001", "x10000000000000000", // too long
		"xx3ff0000000000000", "x3ff0000000000000 ", " x3ff0000000000000", "x3ff0000000000000\n",
		"X3ff0000000000000", "x3FF0000000000000", "x3Ff0000000000000", "x7fEfffffffffffff", "x400921fb54442D18", // capital letters
		"x0000000000000000", "x8000000000000000", "x7ff0000000000000", "xfff0000000000000", // the bits of special numbers
		"x7ff8000000000001", "x7ff0000000000001", "x7ff8000000000000", "xfff8000000000001", "xffffffffffffffff", // of NaNs
		"x3ff000000000000g", "x3ff000000000000 ", "x 3ff000000000000", "x3ff00000 0000000", "x3ff_000000000000",
		"x+3ff000000000000", "x-3ff000000000000", "x0x3ff0000000000", "x3ff00000000000.0", "x3ff00000000000\xC3\xA9",
		"x3ff000000000000\x00", "x" + strings.Repeat("0", 1000) + "1", strings.Repeat("-", 1000) + "0",
		"x" + strings.Repeat("f", 1000), strings.Repeat("nan", 1000),
	}
}

// P3.3: Parse gives 0 and false for everything else.
func TestParseRejects(t *testing.T) {
	for _, s := range noTexts() {
		if f, ok := num.Parse(s); ok || math.Float64bits(f) != 0 {
			t.Errorf("Parse(%.40q) = %v, %v", s, f, ok)
		}
	}
	for _, b := range otherNaNs() {
		s := fmt.Sprintf("x%016x", b)
		if f, ok := num.Parse(s); ok || math.Float64bits(f) != 0 {
			t.Errorf("Parse(%q) = %v, %v", s, f, ok)
		}
	}
}

// slowParse reads a text by the length and the bytes that it may have.
func slowParse(s string) (uint64, bool) {
	special := map[string]uint64{"nan": theNaN, "inf": infinity, "-inf": sign | infinity, "0": 0, "-0": sign}
	if b, ok := special[s]; ok {
		return b, true
	}
	if len(s) != 17 || s[0] != 'x' || strings.Trim(s[1:], "0123456789abcdef") != "" {
		return 0, false
	}
	b, err := strconv.ParseUint(s[1:], 16, 64)
	for _, other := range special {
		if b == other {
			return 0, false
		}
	}
	return b, err == nil && !isNaN(b)
}

// P3.3: texts in which one byte is another one, is missing, or is there twice.
func TestParseDamaged(t *testing.T) {
	check := func(s string) {
		f, ok := num.Parse(s)
		if want, is := slowParse(s); ok != is || is && math.Float64bits(f) != want || !is && math.Float64bits(f) != 0 {
			t.Errorf("Parse(%q) = %v, %v, want %#x, %v", s, f, ok, want, is)
		}
	}
	for _, f := range inOrder() {
		s := slowText(f)
		for i := range len(s) {
			for c := range 256 {
				check(s[:i] + string([]byte{byte(c)}) + s[i+1:])
			}
			check(s[:i] + s[i+1:])
			check(s[:i+1] + s[i:])
			check(s[:i])
		}
	}
}

// P3.4: known products.
func TestScaleKnown(t *testing.T) {
	inf := math.Inf(1)
	for _, c := range []struct {
		n    uint64
		f    float64
		want uint64
	}{
		{10, 1.5, 15}, {10, math.NaN(), 0}, {1, 1, 1}, {7, 1, 7}, {2, 2, 4}, {100, 0.1, 10},
		{3, 0.5, 1}, {1, 0.999, 0}, {1, math.Nextafter(1, 0), 0}, {1, 1.999, 1}, {5, 0.7, 3}, {9, 0.25, 2}, // rounded down
		{3, 1.0 / 3, 1}, {10, 0.3, 3}, {3, 0.1, 0}, {49, 1.0 / 49, 0}, // the product is rounded to a float64 before
		{0, 1, 0}, {0, 0, 0}, {0, -1, 0}, {0, inf, 0}, {0, -inf, 0}, {0, math.NaN(), 0}, {0, math.MaxFloat64, 0}, // no ticks
		{1, 0, 0}, {1, negativeZero, 0}, {1, -1, 0}, {1, -math.SmallestNonzeroFloat64, 0}, {1, -inf, 0}, {1, math.NaN(), 0},
		{math.MaxUint64, 0, 0}, {math.MaxUint64, negativeZero, 0}, {math.MaxUint64, -1, 0}, {math.MaxUint64, -math.MaxFloat64, 0},
		{math.MaxUint64, -inf, 0}, {math.MaxUint64, math.NaN(), 0},
		{1, inf, maxTick}, {maxTick, inf, maxTick}, {math.MaxUint64, inf, maxTick},
		{1, math.MaxFloat64, maxTick}, {math.MaxUint64, math.MaxFloat64, maxTick}, // this product is infinite
		{1, math.SmallestNonzeroFloat64, 0}, {math.MaxUint64, math.SmallestNonzeroFloat64, 0},
		{1, 1 << 63, maxTick}, {1, 1<<63 - 1024, 1<<63 - 1024}, {1, 1 << 62, 1 << 62}, {2, 1 << 62, maxTick},
		{1 << 62, 1, 1 << 62}, {1 << 62, 2, maxTick}, {1 << 62, math.Nextafter(2, 0), 1<<63 - 1024},
		{1 << 53, 1, 1 << 53}, {1<<53 + 1, 1, 1 << 53}, {1<<53 + 3, 1, 1<<53 + 4}, // n is a float64
		{1<<63 - 1024, 1, 1<<63 - 1024}, {1<<63 - 513, 1, 1<<63 - 1024}, {1<<63 - 512, 1, maxTick}, {maxTick, 1, maxTick},
		{maxTick, 0.5, 1 << 62}, {maxTick, math.Nextafter(1, 0), 1<<63 - 1024},
		{1 << 63, 1, maxTick}, {1 << 63, 0.5, 1 << 62}, {1<<63 + 1, 0.25, 1 << 61}, // greater than the greatest tick
		{math.MaxUint64, 1, maxTick}, {math.MaxUint64, 0.5, maxTick}, {math.MaxUint64, math.Nextafter(0.5, 0), 1<<63 - 1024},
		{math.MaxUint64, 0.25, 1 << 62}, {math.MaxUint64, 1.0 / (1 << 32) / (1 << 32), 1},
	} {
		if got := num.Scale(c.n, c.f); got != c.want {
			t.Errorf("Scale(%d, %v) = %d, want %d", c.n, c.f, got, c.want)
		}
	}
}

// slowScale multiplies exactly, and rounds as the chapter says it.
func slowScale(n uint64, f float64) uint64 {
	if n == 0 || f != f || f <= 0 {
		return 0
	}
	if f > math.MaxFloat64 {
		return maxTick
	}
	ticks, _ := new(big.Float).SetPrec(64).SetUint64(n).Float64()
	exact := new(big.Float).SetPrec(200).Mul(big.NewFloat(ticks), big.NewFloat(f))
	product, _ := exact.Float64()
	if product >= 1<<63 {
		return maxTick
	}
	whole, _ := big.NewFloat(product).Uint64()
	return whole
}

// ticks returns powers of 2, their neighbours and random numbers, also greater ones than ticks.
func ticks() []uint64 {
	ns := []uint64{0, 1, 2, 3, 10, 100, maxTick - 1, maxTick, maxTick + 1, math.MaxUint64 - 1, math.MaxUint64}
	for i := range 64 {
		ns = append(ns, 1<<i-1, 1<<i, 1<<i+1, 3<<i)
	}
	r := newRandom()
	for range 300 {
		ns = append(ns, r.Uint64()>>r.IntN(64))
	}
	return ns
}

// P3.4: the definition, for all sizes of ticks and numbers.
func TestScaleDefinition(t *testing.T) {
	fs := append(inOrder(), math.Float64frombits(sign|theNaN))
	r := newRandom()
	for range 300 {
		fs = append(fs, math.Ldexp(r.Float64(), r.IntN(140)-70), r.Float64()*4, math.Float64frombits(r.Uint64()))
	}
	for _, n := range ticks() {
		for _, f := range fs {
			if got, want := num.Scale(n, f), slowScale(n, f); got != want {
				t.Errorf("Scale(%d, %v) = %d, want %d", n, f, got, want)
			}
		}
		if n == 0 {
			continue
		}
		for _, f := range []float64{1 / float64(n), 1 << 63 / float64(n)} { // products near 1 and near the greatest tick
			for _, g := range []float64{math.Nextafter(f, 0), f, math.Nextafter(f, 2*f)} {
				if got, want := num.Scale(n, g), slowScale(n, g); got != want {
					t.Errorf("Scale(%d, %v) = %d, want %d", n, g, got, want)
				}
			}
		}
	}
}

// P3.4: known sums.
func TestAddKnown(t *testing.T) {
	for _, c := range []struct{ a, b, want uint64 }{
		{0, 0, 0}, {1, 2, 3}, {0, 5, 5}, {1 << 53, 1, 1<<53 + 1},
		{maxTick, 0, maxTick}, {maxTick - 1, 1, maxTick}, {maxTick - 1, 0, maxTick - 1}, {maxTick - 2, 1, maxTick - 1},
		{1 << 62, 1<<62 - 1, maxTick}, {1 << 62, 1<<62 - 2, maxTick - 1},
		{maxTick, 1, maxTick}, {maxTick, maxTick, maxTick}, {1 << 62, 1 << 62, maxTick},
		{1 << 63, 0, maxTick}, {1 << 63, 1 << 63, maxTick}, {maxTick, 1 << 63, maxTick}, // greater than the greatest tick
		{math.MaxUint64, 0, maxTick}, {math.MaxUint64, 1, maxTick}, {math.MaxUint64, 2, maxTick},
		{math.MaxUint64, math.MaxUint64, maxTick}, {math.MaxUint64 - 4, 5, maxTick},
	} {
		if got := num.Add(c.a, c.b); got != c.want {
			t.Errorf("Add(%d, %d) = %d, want %d", c.a, c.b, got, c.want)
		}
		if got := num.Add(c.b, c.a); got != c.want {
			t.Errorf("Add(%d, %d) = %d, want %d", c.b, c.a, got, c.want)
		}
	}
	if api.MaxTick != maxTick {
		t.Errorf("the greatest tick is %d", uint64(api.MaxTick))
	}
}

// P3.4: the definition, without wraparound.
func TestAddDefinition(t *testing.T) {
	greatest := new(big.Int).SetUint64(maxTick)
	ns := ticks()
	for _, a := range ns {
		for _, b := range append(ns, maxTick-a, maxTick-a+1, maxTick-a-1, -a, -a-1, -a+1) {
			want := new(big.Int).Add(new(big.Int).SetUint64(a), new(big.Int).SetUint64(b))
			if want.Cmp(greatest) > 0 {
				want = greatest
			}
			if got := num.Add(a, b); got != want.Uint64() {
				t.Errorf("Add(%d, %d) = %d, want %d", a, b, got, want)
			}
		}
	}
}

// P3.5: Of inverts Bits, and Parse inverts Text, for all numbers.
func TestInverted(t *testing.T) {
	for _, b := range anyBits() {
		f := math.Float64frombits(b)
		if got, ok := num.Of(num.Bits(f)); !ok || math.Float64bits(got) != slowBits(b) {
			t.Errorf("Of(Bits) of %#x: %v, %v", b, got, ok)
		}
		if got, ok := num.Parse(num.Text(f)); !ok || math.Float64bits(got) != slowBits(b) {
			t.Errorf("Parse(%q) = %v, %v", num.Text(f), got, ok)
		}
	}
}

// P3.5: different numbers have different texts, and the same number has one.
func TestTextsDiffer(t *testing.T) {
	seen := map[string]uint64{}
	for _, b := range anyBits() {
		s := num.Text(math.Float64frombits(b))
		if before, ok := seen[s]; ok && before != slowBits(b) {
			t.Errorf("%#x and %#x have the text %q", before, b, s)
		}
		seen[s] = slowBits(b)
	}
}

// P3.5: the order is total, and Compare returns 0 exactly for the same numbers.
func TestOrderTotal(t *testing.T) {
	r := newRandom()
	bs := anyBits()
	r.Shuffle(len(bs), func(i, k int) { bs[i], bs[k] = bs[k], bs[i] })
	var fs []float64
	for _, b := range bs[:400] {
		fs = append(fs, math.Float64frombits(b))
	}
	fs = append(fs, inOrder()...)
	fs = append(fs, math.Float64frombits(sign|theNaN), math.Float64frombits(infinity+1))
	slices.SortFunc(fs, num.Compare)
	for i, a := range fs {
		for k, b := range fs {
			c := num.Compare(a, b)
			if c != -num.Compare(b, a) || i < k && c > 0 || i > k && c < 0 {
				t.Errorf("%v, %v at %d and %d: %d", a, b, i, k, c)
			}
			if (c == 0) != num.Same(a, b) {
				t.Errorf("Compare(%v, %v) = %d, Same %v", a, b, c, num.Same(a, b))
			}
		}
	}
}
