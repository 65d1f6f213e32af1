package bin_test

import (
	"bytes"
	"math"
	"math/big"
	"math/rand/v2"
	"strings"
	"testing"

	"clockwork/bin"
)

// slowForm writes digits in the base 128, as the chapter says it.
func slowForm(x *big.Int) []byte {
	base := big.NewInt(128)
	rest, digit := new(big.Int).Set(x), new(big.Int)
	var form []byte
	for {
		rest.DivMod(rest, base, digit)
		if rest.Sign() == 0 {
			return append(form, byte(digit.Int64()))
		}
		form = append(form, byte(digit.Int64()+128))
	}
}

func unsigned(x uint64) *big.Int { return new(big.Int).SetUint64(x) }

// slowFold returns 2*x or -2*x - 1, without wraparound.
func slowFold(x int64) *big.Int {
	double := new(big.Int).Mul(big.NewInt(2), big.NewInt(x))
	if x >= 0 {
		return double
	}
	return double.Neg(double).Sub(double, big.NewInt(1))
}

func newRandom() *rand.Rand { return rand.New(rand.NewPCG(3, 4)) }

func randomBytes(r *rand.Rand, n int) []byte {
	b := make([]byte, n)
	for i := range b {
		b[i] = byte(r.Uint32())
	}
	return b
}

// numbers returns all powers of 2 and their neighbours, small numbers, and random ones of all sizes.
func numbers() []uint64 {
	xs := []uint64{0, math.MaxUint64, math.MaxInt64, 1 << 63}
	for i := range 64 {
		p := uint64(1) << i
		xs = append(xs, p-1, p, p+1, -p)
	}
	for x := range uint64(20000) {
		xs = append(xs, x)
	}
	r := newRandom()
	for range 20000 {
		xs = append(xs, r.Uint64()>>r.IntN(64))
	}
	return xs
}

// failing returns bytes that begin with no form of a number.
func failing() map[string][]byte {
	nine := bytes.Repeat([]byte{255}, 9)
	nineZeros := bytes.Repeat([]byte{128}, 9)
	return map[string][]byte{
		"nothing":                           {},
		"nil":                               nil,
		"one byte, and no last digit":       {128},
		"two bytes, and no last digit":      {255, 255},
		"nine bytes, and no last digit":     nine,
		"ten bytes, and no last digit":      append(bytes.Clone(nine), 129),
		"ten zeros, and no last digit":      append(bytes.Clone(nineZeros), 128),
		"last digit 0 behind 0":             {128, 0},
		"last digit 0 behind 127":           {255, 0},
		"last digit 0 behind two digits":    {129, 128, 0},
		"last digit 0, and more":            {172, 130, 0, 1, 2},
		"last digit 0 in the tenth place":   append(bytes.Clone(nine), 0),
		"2^64":                              append(bytes.Clone(nineZeros), 2),
		"3 * 2^63":                          append(bytes.Clone(nineZeros), 3),
		"2^70 - 1":                          append(bytes.Clone(nine), 127),
		"tenth digit 64":                    append(bytes.Clone(nine), 64),
		"eleven digits, of which 1 is 2^70": append(bytes.Clone(nineZeros), 128, 1),
		"eleven digits":                     append(bytes.Clone(nine), 129, 1),
		"eleven digits, the last one is 0":  append(bytes.Clone(nine), 129, 0),
		"many digits":                       append(bytes.Repeat([]byte{128}, 100), 1),
	}
}

// reads are all ways to read; each reports whether it returned a zero value.
func reads() map[string]func(r *bin.Reader) bool {
	return map[string]func(r *bin.Reader) bool{
		"Uint":    func(r *bin.Reader) bool { return r.Uint() == 0 },
		"Int":     func(r *bin.Reader) bool { return r.Int() == 0 },
		"Bytes":   func(r *bin.Reader) bool { return len(r.Bytes()) == 0 },
		"Text":    func(r *bin.Reader) bool { return r.Text() == "" },
		"Take(0)": func(r *bin.Reader) bool { return len(r.Take(0)) == 0 },
		"Take(1)": func(r *bin.Reader) bool { return len(r.Take(1)) == 0 },
	}
}

// checkFailed checks that a reader has failed, has this many bytes left, and fails for ever.
func checkFailed(t *testing.T, r *bin.Reader, left int) {
	t.Helper()
	check := func(when string) {
		t.Helper()
		if r.Ok() || r.Done() || r.Left() != left {
			t.Errorf("%s: Ok %v, Done %v, Left %d, want %d", when, r.Ok(), r.Done(), r.Left(), left)
		}
	}
	check("at once")
	for name, read := range reads() {
		if !read(r) {
			t.Errorf("then %s: no zero value", name)
		}
		check("after " + name)
	}
}

// checkOk checks that a reader has not failed, and has this many bytes left.
func checkOk(t *testing.T, r *bin.Reader, left int) {
	t.Helper()
	if !r.Ok() || r.Done() != (left == 0) || r.Left() != left {
		t.Errorf("Ok %v, Done %v, Left %d, want %d", r.Ok(), r.Done(), r.Left(), left)
	}
}

// P2.1: known forms of numbers.
func TestUintKnown(t *testing.T) {
	for _, c := range []struct {
		x    uint64
		want string
	}{
		{0, "\x00"}, {1, "\x01"}, {127, "\x7F"}, {128, "\x80\x01"}, {129, "\x81\x01"}, {255, "\xFF\x01"},
		{300, "\xAC\x02"}, {16383, "\xFF\x7F"}, {16384, "\x80\x80\x01"}, {16385, "\x81\x80\x01"},
		{1<<56 - 1, "\xFF\xFF\xFF\xFF\xFF\xFF\xFF\x7F"}, {1 << 56, "\x80\x80\x80\x80\x80\x80\x80\x80\x01"},
		{1<<63 - 1, "\xFF\xFF\xFF\xFF\xFF\xFF\xFF\xFF\x7F"}, {1 << 63, "\x80\x80\x80\x80\x80\x80\x80\x80\x80\x01"},
		{math.MaxUint64, "\xFF\xFF\xFF\xFF\xFF\xFF\xFF\xFF\xFF\x01"},
	} {
		if got := bin.Uint(c.x); string(got) != c.want {
			t.Errorf("Uint(%d) = %v, want %v", c.x, got, []byte(c.want))
		}
	}
}

// P2.1: known forms of numbers with a sign.
func TestIntKnown(t *testing.T) {
	for _, c := range []struct {
		x    int64
		want string
	}{
		{0, "\x00"}, {-1, "\x01"}, {1, "\x02"}, {-2, "\x03"}, {2, "\x04"}, {63, "\x7E"}, {-64, "\x7F"},
		{64, "\x80\x01"}, {-65, "\x81\x01"}, {150, "\xAC\x02"}, {-151, "\xAD\x02"},
		{math.MaxInt64, "\xFE\xFF\xFF\xFF\xFF\xFF\xFF\xFF\xFF\x01"},
		{math.MinInt64, "\xFF\xFF\xFF\xFF\xFF\xFF\xFF\xFF\xFF\x01"},
	} {
		if got := bin.Int(c.x); string(got) != c.want {
			t.Errorf("Int(%d) = %v, want %v", c.x, got, []byte(c.want))
		}
	}
}

// P2.1: the definition of the forms of numbers.
func TestNumbersDefinition(t *testing.T) {
	for _, x := range numbers() {
		if got, want := bin.Uint(x), slowForm(unsigned(x)); !bytes.Equal(got, want) {
			t.Errorf("Uint(%d) = %v, want %v", x, got, want)
		}
		for _, i := range []int64{int64(x), -int64(x)} {
			if got, want := bin.Int(i), slowForm(slowFold(i)); !bytes.Equal(got, want) {
				t.Errorf("Int(%d) = %v, want %v", i, got, want)
			}
		}
	}
}

// P2.1: the forms of bytes and strings are their number and they themselves, whatever they are.
func TestBytesAndText(t *testing.T) {
	for s, want := range map[string]string{
		"": "\x00", "a": "\x01a", "ab": "\x02ab", "\x00": "\x01\x00", "\x80\xFF": "\x02\x80\xFF", "é": "\x02\xC3\xA9",
		strings.Repeat("x", 127):   "\x7F" + strings.Repeat("x", 127),
		strings.Repeat("x", 128):   "\x80\x01" + strings.Repeat("x", 128),
		strings.Repeat("x", 300):   "\xAC\x02" + strings.Repeat("x", 300),
		strings.Repeat("x", 16384): "\x80\x80\x01" + strings.Repeat("x", 16384),
	} {
		if got := bin.Bytes([]byte(s)); string(got) != want {
			t.Errorf("Bytes(%.20q) = %.20q, want %.20q", s, got, want)
		}
		if got := bin.Text(s); string(got) != want {
			t.Errorf("Text(%.20q) = %.20q, want %.20q", s, got, want)
		}
	}
	if got := bin.Bytes(nil); string(got) != "\x00" {
		t.Errorf("Bytes(nil) = %v", got)
	}
}

// P2.2: different forms behind each other are read from the front.
func TestReadsInOrder(t *testing.T) {
	r := bin.New([]byte("\xAC\x02\x01\x02\x07\x08\x03abc\x05\x06\x00\x00\x00\x00\x09"))
	checkOk(t, r, 17)
	if x := r.Uint(); x != 300 {
		t.Errorf("Uint %d", x)
	}
	checkOk(t, r, 15)
	if x := r.Int(); x != -1 {
		t.Errorf("Int %d", x)
	}
	checkOk(t, r, 14)
	if b := r.Bytes(); string(b) != "\x07\x08" {
		t.Errorf("Bytes %v", b)
	}
	checkOk(t, r, 11)
	if s := r.Text(); s != "abc" {
		t.Errorf("Text %q", s)
	}
	checkOk(t, r, 7)
	if b := r.Take(2); string(b) != "\x05\x06" {
		t.Errorf("Take %v", b)
	}
	checkOk(t, r, 5)
	if r.Uint() != 0 || r.Int() != 0 || len(r.Bytes()) != 0 || r.Text() != "" {
		t.Error("zeros")
	}
	checkOk(t, r, 1)
	if b := r.Take(1); string(b) != "\x09" {
		t.Errorf("Take %v", b)
	}
	checkOk(t, r, 0)
}

// P2.2, P2.3: a new reader is ok, and done if there are no bytes.
func TestNew(t *testing.T) {
	checkOk(t, bin.New(nil), 0)
	checkOk(t, bin.New([]byte{}), 0)
	checkOk(t, bin.New([]byte{0}), 1)
	checkOk(t, bin.New([]byte{128}), 1)
	checkOk(t, bin.New(make([]byte, 100000)), 100000)
}

// P2.2: Take fails if n is negative or too great, and only then.
func TestTake(t *testing.T) {
	b := []byte("\x80\x00\xFFabc")
	for n := range len(b) + 1 {
		r := bin.New(b)
		if got := r.Take(n); !bytes.Equal(got, b[:n]) {
			t.Errorf("Take(%d) = %v", n, got)
		}
		checkOk(t, r, len(b)-n)
		if got := r.Take(len(b) - n); !bytes.Equal(got, b[n:]) {
			t.Errorf("Take(%d) after %d = %v", len(b)-n, n, got)
		}
		checkOk(t, r, 0)
		if got := r.Take(0); len(got) != 0 {
			t.Errorf("Take(0) at the end: %v", got)
		}
		checkOk(t, r, 0)
	}
	for _, n := range []int{len(b) + 1, math.MaxInt, math.MaxInt32, -1, -len(b), math.MinInt} {
		r := bin.New(b)
		if got := r.Take(n); len(got) != 0 {
			t.Errorf("Take(%d) = %v", n, got)
		}
		checkFailed(t, r, len(b))

		r = bin.New(b)
		r.Take(2)
		if got := r.Take(n); len(got) != 0 {
			t.Errorf("Take(%d) after 2 = %v", n, got)
		}
		checkFailed(t, r, len(b)-2)
	}
	for _, n := range []int{1, -1} {
		r := bin.New(nil)
		if got := r.Take(n); len(got) != 0 {
			t.Errorf("Take(%d) of nothing = %v", n, got)
		}
		checkFailed(t, r, 0)
	}
}

// P2.2: all reads of a form fail where no form of a number begins, and read nothing.
func TestNoForm(t *testing.T) {
	for name, b := range failing() {
		for how, read := range reads() {
			if strings.HasPrefix(how, "Take") {
				continue
			}
			r := bin.New(b)
			if !read(r) {
				t.Errorf("%s, %s: no zero value", name, how)
			}
			checkFailed(t, r, len(b))

			r = bin.New(append([]byte{172, 2}, b...))
			if x := r.Uint(); x != 300 {
				t.Errorf("in front of %s: %d", name, x)
			}
			if !read(r) {
				t.Errorf("300 and %s, %s: no zero value", name, how)
			}
			checkFailed(t, r, len(b))
		}
	}
}

// P2.2: Bytes and Text fail if fewer bytes are left than announced; then the number is not read either.
func TestTooFewBytes(t *testing.T) {
	for _, n := range []uint64{1, 2, 3, 127, 128, 300, 1 << 31, 1 << 32, 1<<63 - 1, 1 << 63, 1<<63 + 1, math.MaxUint64 - 9, math.MaxUint64} {
		for left := range uint64(5) {
			if left >= n {
				continue
			}
			b := append(bin.Uint(n), make([]byte, left)...)
			r := bin.New(b)
			if got := r.Bytes(); len(got) != 0 {
				t.Errorf("%d announced, %d left: %v", n, left, got)
			}
			checkFailed(t, r, len(b))
			r = bin.New(b)
			if got := r.Text(); got != "" {
				t.Errorf("%d announced, %d left: %q", n, left, got)
			}
			checkFailed(t, r, len(b))
		}
	}
	whole := bin.Text(strings.Repeat("x", 200))
	for n := range len(whole) {
		r := bin.New(whole[:n])
		if got := r.Text(); got != "" {
			t.Errorf("the first %d bytes: %q", n, got)
		}
		checkFailed(t, r, n)
	}
}

// P2.3: Done needs both, no failed read and no bytes left.
func TestDone(t *testing.T) {
	r := bin.New([]byte{5})
	checkOk(t, r, 1)
	r.Uint()
	checkOk(t, r, 0)
	r.Uint()
	checkFailed(t, r, 0)
}

// P2.2, P2.3: a nil Reader has no bytes and is not ok.
func TestNilReader(t *testing.T) {
	var r *bin.Reader
	checkFailed(t, r, 0)
	for _, n := range []int{math.MinInt, -1, 0, 1, math.MaxInt} {
		if b := r.Take(n); len(b) != 0 {
			t.Errorf("Take(%d) = %v", n, b)
		}
	}
}

// P2.4: reading inverts writing of numbers, with nothing and with something behind them.
func TestNumbersInverted(t *testing.T) {
	for _, x := range numbers() {
		for _, tail := range []string{"", "\x00", "\x01", "\x80", "\xFF"} {
			r := bin.New(append(bin.Uint(x), tail...))
			if got := r.Uint(); got != x {
				t.Errorf("%d is read as %d", x, got)
			}
			checkOk(t, r, len(tail))
		}
		for _, i := range []int64{int64(x), -int64(x)} {
			r := bin.New(append(bin.Int(i), 200))
			if got := r.Int(); got != i {
				t.Errorf("%d is read as %d", i, got)
			}
			checkOk(t, r, 1)
		}
	}
}

// P2.4: reading inverts writing of bytes and strings.
func TestBytesInverted(t *testing.T) {
	random := newRandom()
	for n := range 400 {
		b := randomBytes(random, n)
		r := bin.New(append(append(bin.Bytes(b), bin.Text(string(b))...), 7))
		if got := r.Bytes(); !bytes.Equal(got, b) {
			t.Errorf("%v is read as %v", b, got)
		}
		if got := r.Text(); got != string(b) {
			t.Errorf("%q is read as %q", b, got)
		}
		checkOk(t, r, 1)
	}
}

// P2.4: among all bytes, exactly those are read as a number that begin with its form.
func checkOnlyForm(t *testing.T, b []byte) {
	t.Helper()
	r := bin.New(b)
	x := r.Uint()
	if !r.Ok() {
		if x != 0 || r.Left() != len(b) {
			t.Errorf("%v: failed with %d, %d left", b, x, r.Left())
		}
	} else if read := b[:len(b)-r.Left()]; !bytes.Equal(read, slowForm(unsigned(x))) {
		t.Errorf("%v is read as %d", read, x)
	}
	s := bin.New(b)
	i := s.Int()
	if s.Ok() != r.Ok() || s.Left() != r.Left() || s.Ok() && slowFold(i).Cmp(unsigned(x)) != 0 || !s.Ok() && i != 0 {
		t.Errorf("%v is read as %d and %d", b, x, i)
	}
}

func TestOnlyFormShort(t *testing.T) {
	checkOnlyForm(t, nil)
	for x := range 1 << 8 {
		checkOnlyForm(t, []byte{byte(x)})
	}
	for x := range 1 << 16 {
		checkOnlyForm(t, []byte{byte(x), byte(x >> 8)})
	}
	edges := []byte{0, 1, 2, 63, 64, 127, 128, 129, 254, 255}
	for _, a := range edges {
		for _, b := range edges {
			for _, c := range edges {
				checkOnlyForm(t, []byte{a, b, c})
			}
		}
	}
}

func TestOnlyFormLong(t *testing.T) {
	random := newRandom()
	for n := 7; n <= 12; n++ {
		for last := range 256 {
			b := randomBytes(random, n)
			for i := range b {
				b[i] |= 128
			}
			b[n-1] = byte(last)
			checkOnlyForm(t, b)
		}
	}
}

// model reads as the chapter says it, by comparing with all that is possible.
type model struct {
	b  []byte
	ok bool
}

func (m *model) uint() uint64 {
	var x big.Int
	for i, c := range m.b {
		x.Or(&x, new(big.Int).Lsh(big.NewInt(int64(c%128)), uint(7*i)))
		if c < 128 {
			if !m.ok || !x.IsUint64() || !bytes.Equal(slowForm(&x), m.b[:i+1]) {
				break
			}
			m.b = m.b[i+1:]
			return x.Uint64()
		}
	}
	m.ok = false
	return 0
}

func (m *model) bytes() []byte {
	before := m.b
	n := m.uint()
	if !m.ok {
		return nil
	}
	if unsigned(n).Cmp(big.NewInt(int64(len(m.b)))) > 0 {
		m.b, m.ok = before, false
		return nil
	}
	return m.take(int(n))
}

func (m *model) take(n int) []byte {
	if !m.ok || n < 0 || n > len(m.b) {
		m.ok = false
		return nil
	}
	b := m.b[:n]
	m.b = m.b[n:]
	return b
}

// P2.2, P2.3, P2.4: any reads of any bytes.
func TestReaderAgainstModel(t *testing.T) {
	random := newRandom()
	for range 20000 {
		b := randomBytes(random, random.IntN(30))
		for i := range b {
			if random.IntN(2) == 0 {
				b[i] %= 6
			}
		}
		r, m := bin.New(b), &model{b, true}
		for step := range 12 {
			var same bool
			switch random.IntN(5) {
			case 0:
				same = r.Uint() == m.uint()
			case 1:
				got, want := r.Int(), m.uint()
				same = slowFold(got).Cmp(unsigned(want)) == 0
			case 2:
				same = bytes.Equal(r.Bytes(), m.bytes())
			case 3:
				same = r.Text() == string(m.bytes())
			case 4:
				n := random.IntN(8) - 1
				same = bytes.Equal(r.Take(n), m.take(n))
			}
			if !same || r.Ok() != m.ok || r.Left() != len(m.b) || r.Done() != (m.ok && len(m.b) == 0) {
				t.Fatalf("%v, step %d: Ok %v, Left %d, want %v and %d", b, step, r.Ok(), r.Left(), m.ok, len(m.b))
			}
		}
	}
}

// Rule 4: arguments stay as they are, also behind their length, and may be modified afterwards.
func TestArguments(t *testing.T) {
	whole := []byte("\x02ab\x02cd\x01e and what follows")
	before := bytes.Clone(whole)
	b := whole[:8]
	bin.Bytes(b)
	r := bin.New(b)
	first := r.Bytes()
	first[0] = 'x'
	first = append(first, 'y')
	taken := r.Take(1)
	if string(taken) != "\x02" {
		t.Errorf("after a result was extended: %q", taken)
	}
	taken[0] = 9
	taken = append(taken, 'z')
	if !bytes.Equal(whole, before) {
		t.Fatalf("arguments became %q", whole)
	}
	clear(whole)
	if got := r.Take(2); string(got) != "cd" {
		t.Errorf("after the argument was modified: %q", got)
	}
	if got := r.Text(); got != "e" || !r.Done() {
		t.Errorf("after the argument was modified: %q, Left %d", got, r.Left())
	}
	if string(first) != "xby" || string(taken) != "\x09z" {
		t.Errorf("results became %q and %q", first, taken)
	}
	short := bin.New(before[:2])
	if got := short.Bytes(); len(got) != 0 || short.Ok() {
		t.Errorf("read behind the length: %q", got)
	}
}

// Rule 4, P2: results and readers share no memory.
func TestIndependent(t *testing.T) {
	b := []byte("abc")
	one, two := bin.Bytes(b), bin.Bytes(b)
	one[1] = 'x'
	if string(two) != "\x03abc" || string(b) != "abc" {
		t.Error("results of Bytes share memory")
	}
	u, v := bin.Uint(300), bin.Uint(300)
	u[0] = 0
	if string(v) != "\xAC\x02" {
		t.Error("results of Uint share memory")
	}
	r, s := bin.New(two), bin.New(two)
	got := r.Bytes()
	got[0] = 'x'
	r.Uint()
	if string(s.Bytes()) != "abc" || !s.Done() || r.Ok() {
		t.Error("readers share something")
	}
}
