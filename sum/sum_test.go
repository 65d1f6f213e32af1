package sum_test

import (
	"bytes"
	"math"
	"math/rand/v2"
	"testing"

	"clockwork/sum"
)

// slowFeed feeds bytes bit by bit, as the chapter says it.
func slowFeed(r uint32, b []byte) uint32 {
	for _, x := range b {
		r ^= uint32(x)
		for range 8 {
			out := r & 1
			r >>= 1
			if out == 1 {
				r ^= 0x82F63B78
			}
		}
	}
	return r
}

func slow(b []byte) uint32 { return ^slowFeed(0xFFFFFFFF, b) }

func newRandom() *rand.Rand { return rand.New(rand.NewPCG(1, 2)) }

func randomBytes(r *rand.Rand, n int) []byte {
	b := make([]byte, n)
	for i := range b {
		b[i] = byte(r.Uint32())
	}
	return b
}

func sequence(n int, f func(i int) byte) []byte {
	b := make([]byte, n)
	for i := range b {
		b[i] = f(i)
	}
	return b
}

// P1.1: known checksums.
func TestSumKnown(t *testing.T) {
	for _, c := range []struct {
		b    []byte
		want uint32
	}{
		{nil, 0},
		{[]byte{}, 0},
		{[]byte("a"), 0xC1D04330},
		{[]byte("123456789"), 0xE3069283},
		{[]byte{0, 0, 0, 0}, 0x48674BC7},
		{sequence(32, func(int) byte { return 0 }), 0x8A9136AA},
		{sequence(32, func(int) byte { return 0xFF }), 0x62A8AB43},
		{sequence(32, func(i int) byte { return byte(i) }), 0x46DD794E},
		{sequence(32, func(i int) byte { return byte(31 - i) }), 0x113FDB5C},
	} {
		if got := sum.Sum(c.b); got != c.want {
			t.Errorf("Sum(%v) = %#x, want %#x", c.b, got, c.want)
		}
	}
}

// P1.1: the definition, for each byte and for long bytes.
func TestSumDefinition(t *testing.T) {
	for x := range 256 {
		b := []byte{byte(x)}
		if got, want := sum.Sum(b), slow(b); got != want {
			t.Errorf("Sum(%v) = %#x, want %#x", b, got, want)
		}
	}
	r := newRandom()
	for n := range 300 {
		b := randomBytes(r, n)
		if got, want := sum.Sum(b), slow(b); got != want {
			t.Errorf("%d bytes: %#x, want %#x", n, got, want)
		}
	}
	b := randomBytes(r, 1<<20+3)
	if got, want := sum.Sum(b), slow(b); got != want {
		t.Errorf("%d bytes: %#x, want %#x", len(b), got, want)
	}
}

// P1.1: parts count as the bytes of all of them, in order.
func TestSumParts(t *testing.T) {
	if got := sum.Sum(); got != 0 {
		t.Errorf("no parts: %#x", got)
	}
	if got := sum.Sum(nil, nil, []byte{}); got != 0 {
		t.Errorf("empty parts: %#x", got)
	}
	b := []byte("123456789")
	for i := range len(b) + 1 {
		for j := i; j <= len(b); j++ {
			if got := sum.Sum(b[:i], nil, b[i:j], b[j:]); got != 0xE3069283 {
				t.Errorf("split at %d and %d: %#x", i, j, got)
			}
		}
	}
	if sum.Sum([]byte("56789"), []byte("1234")) == 0xE3069283 {
		t.Error("the order of parts makes no difference")
	}
}

// P1.1: More goes on from any checksum.
func TestMore(t *testing.T) {
	for _, s := range []uint32{0, 1, 7, 1 << 31, 0xE3069283, math.MaxUint32} {
		if got := sum.More(s, nil); got != s {
			t.Errorf("More(%#x, nil) = %#x", s, got)
		}
		if got, want := sum.More(s, []byte("ab")), ^slowFeed(^s, []byte("ab")); got != want {
			t.Errorf("More(%#x, ab) = %#x, want %#x", s, got, want)
		}
	}
	b := randomBytes(newRandom(), 100)
	for n := range len(b) + 1 {
		if got, want := sum.More(sum.Sum(b[:n]), b[n:]), slow(b); got != want {
			t.Errorf("split at %d: %#x, want %#x", n, got, want)
		}
	}
}

// P1.2: all splits of some bytes, with 0 to 300 bytes behind the split.
func TestJoinSplits(t *testing.T) {
	b := randomBytes(newRandom(), 300)
	for n := range len(b) + 1 {
		k := len(b) - n
		if got, want := sum.Join(sum.Sum(b[:k]), sum.Sum(b[k:]), n), slow(b); got != want {
			t.Errorf("n = %d: %#x, want %#x", n, got, want)
		}
	}
}

// P1.2: lengths up to the greatest that is promised, of zeros and of other bytes.
func TestJoinLengths(t *testing.T) {
	r := newRandom()
	front := randomBytes(r, 33)
	for _, back := range [][]byte{make([]byte, 1<<20), randomBytes(r, 1<<20)} {
		for _, n := range []int{0, 1, 2, 255, 256, 257, 65535, 65536, 1<<19 - 1, 1 << 19, 1<<20 - 1, 1 << 20} {
			want := slow(append(bytes.Clone(front), back[:n]...))
			if got := sum.Join(slow(front), slow(back[:n]), n); got != want {
				t.Errorf("n = %d: %#x, want %#x", n, got, want)
			}
			if got := sum.Join(0, slow(back[:n]), n); got != slow(back[:n]) {
				t.Errorf("nothing in front of %d bytes: %#x", n, got)
			}
		}
	}
}

// P1.2: checksums of any value, with nothing behind them.
func TestJoinNothing(t *testing.T) {
	for _, a := range []uint32{0, 1, 1 << 31, 0xE3069283, math.MaxUint32} {
		if got := sum.Join(a, 0, 0); got != a {
			t.Errorf("Join(%#x, 0, 0) = %#x", a, got)
		}
	}
}

// P1: Join ends without a panic for every n, also where its result is not promised.
func TestJoinEnds(t *testing.T) {
	for _, n := range []int{math.MinInt, -1 << 20, -1, 1<<20 + 1, math.MaxInt} {
		first, again := sum.Join(1, 2, n), sum.Join(1, 2, n)
		if first != again {
			t.Errorf("n = %d: %#x and %#x", n, first, again)
		}
	}
}

// P1.3: sealed bytes are the bytes and their checksum, the lowest byte first.
func TestSeal(t *testing.T) {
	if got := sum.Seal([]byte("123456789")); string(got) != "123456789\x83\x92\x06\xE3" {
		t.Errorf("%q", got)
	}
	for _, b := range [][]byte{nil, {}} {
		if got := sum.Seal(b); string(got) != "\x00\x00\x00\x00" {
			t.Errorf("nothing: %q", got)
		}
	}
	r := newRandom()
	for n := range 100 {
		b := randomBytes(r, n)
		s := slow(b)
		want := append(bytes.Clone(b), byte(s), byte(s>>8), byte(s>>16), byte(s>>24))
		if got := sum.Seal(b); !bytes.Equal(got, want) {
			t.Errorf("%d bytes: %v, want %v", n, got, want)
		}
	}
}

// P1.3: bytes that are not sealed are told, and give nothing.
func TestOpenRejects(t *testing.T) {
	for _, s := range []string{
		"", "\x00", "\x00\x00", "\x00\x00\x00", // shorter than a checksum
		"\x01\x00\x00\x00", "\xFF\xFF\xFF\xFF", // no checksum of nothing
		"123456789",
		"123456789\xE3\x06\x92\x83",     // the highest byte first
		"12345678\x83\x92\x06\xE3",      // a byte is missing
		"1234567890\x83\x92\x06\xE3",    // a byte too many
		"123456789\x83\x92\x06",         // a part of the checksum is missing
		"123456789\x83\x92\x06\xE3\x00", // something behind the checksum
		"123456789\x7C\x6D\xF9\x1C",     // bits not inverted
	} {
		if got, ok := sum.Open([]byte(s)); ok || len(got) != 0 {
			t.Errorf("Open(%q) = %q, %v", s, got, ok)
		}
	}
}

// P1.3: exactly those bytes are sealed that end with the checksum of what is in front of it.
func TestOpenDefinition(t *testing.T) {
	r := newRandom()
	for i := range 10000 {
		b := randomBytes(r, int(r.Uint32()%20))
		c := slow(b)
		if i%2 == 1 {
			c ^= 1 << (r.Uint32() % 32)
		}
		s := append(bytes.Clone(b), byte(c), byte(c>>8), byte(c>>16), byte(c>>24))
		got, ok := sum.Open(s)
		if want := i%2 == 0; ok != want || want && !bytes.Equal(got, b) || !want && len(got) != 0 {
			t.Errorf("Open(%v) = %v, %v", s, got, ok)
		}
	}
}

// P1.4: Open inverts Seal.
func TestOpenInvertsSeal(t *testing.T) {
	r := newRandom()
	for n := range 200 {
		b := randomBytes(r, n)
		s := sum.Seal(b)
		if got, ok := sum.Open(s); !ok || !bytes.Equal(got, b) {
			t.Errorf("Open(%v) = %v, %v", s, got, ok)
		}
		if got, ok := sum.Open(sum.Seal(s)); !ok || !bytes.Equal(got, s) {
			t.Errorf("sealed twice: %v, %v", got, ok)
		}
	}
	if got, ok := sum.Open(make([]byte, 4)); !ok || len(got) != 0 {
		t.Errorf("nothing: %v, %v", got, ok)
	}
}

// invert returns b with the bits of pattern inverted, from a bit on; the lowest bit of a byte is the first.
func invert(b []byte, from int, pattern uint32) []byte {
	c := bytes.Clone(b)
	for i := range 32 {
		if pattern>>i&1 != 0 {
			c[(from+i)/8] ^= 1 << ((from + i) % 8)
		}
	}
	return c
}

// checkBurst checks bits that follow each other, from the bit from on, of which the last is before the bit end.
func checkBurst(t *testing.T, sealed []byte, from, end int, pattern uint32) {
	t.Helper()
	if room := end - from; room < 32 {
		pattern &= 1<<room - 1
	}
	if pattern == 0 {
		return
	}
	if got, ok := sum.Open(invert(sealed, from, pattern)); ok || len(got) != 0 {
		t.Errorf("%d bytes, bits %#x from %d inverted: %v, %v", len(sealed), pattern, from, got, ok)
	}
}

// P1.4: up to 32 inverted bits that follow each other are told, in front of the checksum and in it.
func TestBursts(t *testing.T) {
	r := newRandom()
	for _, n := range []int{0, 1, 2, 3, 4, 5, 9, 64} {
		sealed := sum.Seal(randomBytes(r, n))
		for from := range 8 * len(sealed) {
			end := 8 * n
			if from >= end {
				end += 32
			}
			for length := 1; length <= 32; length++ {
				ones := uint32(math.MaxUint32) >> (32 - length)
				checkBurst(t, sealed, from, end, ones)
				checkBurst(t, sealed, from, end, 1|1<<(length-1))
				checkBurst(t, sealed, from, end, r.Uint32()&ones)
			}
		}
	}
}

// P1.4: the same in long sealed bytes, at their ends and inside.
func TestBurstsLong(t *testing.T) {
	r := newRandom()
	n := 1 << 12
	sealed := sum.Seal(randomBytes(r, n))
	for range 500 {
		checkBurst(t, sealed, int(r.Uint32())%(8*n), 8*n, r.Uint32()|1)
	}
	checkBurst(t, sealed, 0, 8*n, math.MaxUint32)
	checkBurst(t, sealed, 8*n-32, 8*n, math.MaxUint32)
	checkBurst(t, sealed, 8*n, 8*n+32, math.MaxUint32)
}

// Rule 4: arguments stay as they are, also behind their length, and results share no memory.
func TestMemory(t *testing.T) {
	whole := []byte("123456789and what follows")
	before := bytes.Clone(whole)
	b := whole[:9]
	first, second := sum.Seal(b), sum.Seal(b)
	sum.Sum(b, b)
	sum.More(1, b)
	if !bytes.Equal(whole, before) {
		t.Fatalf("arguments became %q", whole)
	}
	first[0] = 'x'
	if second[0] != '1' || whole[0] != '1' {
		t.Error("results of Seal share memory")
	}

	sealed := append(bytes.Clone(second), "and what follows"...)
	before = bytes.Clone(sealed)
	one, _ := sum.Open(sealed[:13])
	two, _ := sum.Open(sealed[:13])
	one[0] = 'x'
	one = append(one, 'y')
	if string(two) != "123456789" || !bytes.Equal(sealed, before) {
		t.Error("results of Open share memory")
	}
	sealed[0] = 'z'
	if string(one) != "x23456789y" || string(two) != "123456789" {
		t.Error("a result of Open changes with its argument")
	}
}
