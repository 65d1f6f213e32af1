package value_test

import (
	"cmp"
	"fmt"
	"math"
	"math/rand/v2"
	"slices"
	"strings"
	"testing"

	"clockwork/api"
	"clockwork/num"
	"clockwork/value"
)

var negativeZero = math.Copysign(0, -1)

func integer(n int64) api.Value      { return api.Value{Kind: api.Int, N: n} }
func float(f float64) api.Value      { return api.Value{Kind: api.Float, F: f} }
func text(s string) api.Value        { return api.Value{Kind: api.Text, S: s} }
func list(vs ...api.Value) api.Value { return api.Value{Kind: api.List, L: vs} }
func newRandom() *rand.Rand          { return rand.New(rand.NewPCG(7, 8)) }

// show prints a value, also an invalid one.
func show(v api.Value) string { return fmt.Sprintf("%.200s", fmt.Sprintf("%+v", v)) }

// nested returns v in as many Lists as given.
func nested(lists int, v api.Value) api.Value {
	for range lists {
		v = list(v)
	}
	return v
}

// inOrder returns different valid values in their order.
func inOrder() []api.Value {
	vs := []api.Value{{}}
	for _, n := range []int64{
		math.MinInt64, math.MinInt64 + 1, -1 << 32, -129, -65, -64, -5, -1, 0, 1, 2, 9, 10, 63, 64, 127,
		1 << 53, 1<<53 + 1, math.MaxInt64 - 1, math.MaxInt64,
	} {
		vs = append(vs, integer(n))
	}
	for _, f := range []float64{
		math.Inf(-1), -math.MaxFloat64, -10, -1, -math.SmallestNonzeroFloat64, negativeZero, 0,
		math.SmallestNonzeroFloat64, 0.5, 1, math.Pi, 10, math.MaxFloat64, math.Inf(1), math.NaN(),
	} {
		vs = append(vs, float(f))
	}
	for _, s := range []string{
		"", "\x00", "\x00\x00", "\x00a", "\x01", " ", "\"", "0", "A", "Z", "[", "]", "a", "a\x00", "aa", "ab", "abc",
		"ab\xFF", "b", "nil", "\x7F", "\x80", strings.Repeat("\x80", 200), "é", "\xFE\xFF", "\xFF", "\xFF\x00",
	} {
		vs = append(vs, text(s))
	}
	one := integer(1)
	return append(vs,
		list(), list(api.Value{}), list(api.Value{}, api.Value{}), list(api.Value{}, one), list(api.Value{}, list()),
		list(integer(-1)), list(integer(0)), list(one), list(one, api.Value{}), list(one, one),
		list(one, text("a")), list(one, text("a"), text("b")), list(one, text("ab")), list(one, list(), integer(5)),
		list(integer(2)), list(integer(10)),
		list(float(negativeZero)), list(float(0)), list(float(math.NaN())), list(float(math.NaN()), api.Value{}),
		list(text("")), list(text("a")), list(text("a"), text("a")), list(text("aa")), list(text("b")),
		list(list()), list(list(), list()), nested(2, api.Value{}), nested(2, one),
		list(list(list())), list(list(list()), api.Value{}), nested(3, text("")),
		nested(7, one), nested(7, list()), nested(8, api.Value{}), nested(8, one), nested(8, text("b")),
	)
}

// invalid returns values that are not valid.
func invalid() []api.Value {
	var vs []api.Value
	for _, kind := range []int{-1, -2, -3, -4, -256, 5, 6, 100, 256, 257, 1 << 32, 1<<32 + 1, math.MinInt, math.MaxInt} {
		vs = append(vs, api.Value{Kind: kind}, api.Value{Kind: kind, N: 1, F: 1, S: "a", L: []api.Value{{}}})
	}
	one := []api.Value{{}}
	for kind := api.Nil; kind <= api.List; kind++ {
		if kind != api.Int {
			vs = append(vs, api.Value{Kind: kind, N: 1}, api.Value{Kind: kind, N: -1}, api.Value{Kind: kind, N: math.MinInt64})
		}
		if kind != api.Float {
			for _, f := range []float64{1, negativeZero, math.NaN(), math.Inf(1), math.Inf(-1), math.SmallestNonzeroFloat64} {
				vs = append(vs, api.Value{Kind: kind, F: f})
			}
		}
		if kind != api.Text {
			vs = append(vs, api.Value{Kind: kind, S: "a"}, api.Value{Kind: kind, S: "\x00"})
		}
		if kind != api.List {
			vs = append(vs, api.Value{Kind: kind, L: one}, api.Value{Kind: kind, L: single(list())})
		}
	}
	vs = append(vs,
		api.Value{Kind: api.Int, N: 5, F: negativeZero}, api.Value{Kind: api.Float, F: 5, S: "5"},
		api.Value{Kind: api.Text, S: "5", N: 5}, api.Value{Kind: api.List, L: one, S: "5"},
		list(list(), list(api.Value{}, nested(7, api.Value{}))), list(nested(8, integer(1)), integer(1)),
	)
	for _, v := range vs { // they make a List invalid, wherever they are in it
		vs = append(vs, list(v), list(integer(1), v, text("a")), list(list(), v), nested(8, v), list(list(text("a")), list(v)))
	}
	for lists := 9; lists <= 50; lists++ {
		vs = append(vs, nested(lists, api.Value{}), nested(lists-1, list()), nested(lists-2, list(integer(1), list(), text(""))))
	}
	return vs
}

func single(v api.Value) []api.Value { return []api.Value{v} }

// wide returns valid values with 10000 values in them.
func wide() []api.Value {
	var flat, pairs []api.Value
	for i := range int64(9999) {
		flat = append(flat, integer(i-5000))
	}
	for i := range 3333 {
		pairs = append(pairs, list(text(strings.Repeat("x", i%50)), float(float64(i))))
	}
	return []api.Value{list(flat...), list(pairs...)}
}

// randomValue returns a valid value with a depth of at most depth.
func randomValue(r *rand.Rand, depth int) api.Value {
	kinds := 5
	if depth == 0 {
		kinds = 4
	}
	switch r.IntN(kinds) {
	case api.Int:
		return integer(int64(r.Uint64()) >> r.IntN(64))
	case api.Float:
		return float(math.Float64frombits(r.Uint64() << r.IntN(64)))
	case api.Text:
		b := make([]byte, r.IntN(4))
		for i := range b {
			b[i] = byte(r.Uint32())
		}
		return text(string(b))
	case api.List:
		var vs []api.Value
		for range r.IntN(4) {
			vs = append(vs, randomValue(r, depth-1))
		}
		return list(vs...)
	}
	return api.Value{}
}

// randomValues returns valid values of all depths.
func randomValues(n int) []api.Value {
	r := newRandom()
	var vs []api.Value
	for i := range n {
		v := randomValue(r, i%(api.MaxDepth+1))
		vs = append(vs, nested(r.IntN(api.MaxDepth+1-slowDepth(v)), v))
	}
	return vs
}

// valid returns values of all kinds that are valid.
func valid() []api.Value {
	vs := append(inOrder(), wide()...)
	return append(vs, randomValues(3000)...)
}

// changed returns v with another kind or field in one of its values.
func changed(r *rand.Rand, v api.Value) api.Value {
	v = slowClone(v)
	at := &v
	for len(at.L) > 0 && r.IntN(3) > 0 {
		at = &at.L[r.IntN(len(at.L))]
	}
	switch r.IntN(6) {
	case 0:
		at.Kind = r.IntN(9) - 2
	case 1:
		at.N = int64(r.IntN(3)) - 1
	case 2:
		at.F = []float64{0, negativeZero, 1, math.NaN()}[r.IntN(4)]
	case 3:
		at.S = []string{"", "a", "b"}[r.IntN(3)]
	case 4:
		at.L = append(at.L, api.Value{})
	default:
		at.L = at.L[:len(at.L)/2]
	}
	return v
}

// slowDepth is the depth of a value.
func slowDepth(v api.Value) int {
	if v.Kind != api.List {
		return 0
	}
	depth := 1
	for _, x := range v.L {
		depth = max(depth, 1+slowDepth(x))
	}
	return depth
}

// slowValid goes through the rules of the chapter one by one.
func slowValid(v api.Value) bool {
	noN, noS, noL := v.N == 0, v.S == "", len(v.L) == 0
	noF := math.Float64bits(v.F) == 0
	switch v.Kind {
	case api.Nil:
		return noN && noF && noS && noL
	case api.Int:
		return noF && noS && noL
	case api.Float:
		return noN && noS && noL
	case api.Text:
		return noN && noF && noL
	case api.List:
		for _, x := range v.L {
			if !slowValid(x) {
				return false
			}
		}
		return noN && noF && noS && slowDepth(v) <= 8
	}
	return false
}

func slowSame(a, b api.Value) bool {
	if a.Kind != b.Kind || a.N != b.N || a.S != b.S || !num.Same(a.F, b.F) || len(a.L) != len(b.L) {
		return false
	}
	for i := range a.L {
		if !slowSame(a.L[i], b.L[i]) {
			return false
		}
	}
	return true
}

// slowCompare is the order of valid values, kind by kind.
func slowCompare(a, b api.Value) int {
	if a.Kind != b.Kind {
		return cmp.Compare(a.Kind, b.Kind)
	}
	switch a.Kind {
	case api.Int:
		return cmp.Compare(a.N, b.N)
	case api.Float:
		return num.Compare(a.F, b.F)
	case api.Text:
		for i := range min(len(a.S), len(b.S)) {
			if a.S[i] != b.S[i] {
				return cmp.Compare(a.S[i], b.S[i])
			}
		}
		return cmp.Compare(len(a.S), len(b.S))
	case api.List:
		for i := range min(len(a.L), len(b.L)) {
			if c := slowCompare(a.L[i], b.L[i]); c != 0 {
				return c
			}
		}
		return cmp.Compare(len(a.L), len(b.L))
	}
	return 0
}

func slowClone(v api.Value) api.Value {
	c := api.Value{Kind: v.Kind, N: v.N, F: v.F, S: v.S}
	for _, x := range v.L {
		c.L = append(c.L, slowClone(x))
	}
	return c
}

func slowCount(v api.Value) int {
	n := 1
	for _, x := range v.L {
		n += slowCount(x)
	}
	return n
}

// P4.1: values of each kind that are valid.
func TestValid(t *testing.T) {
	for _, v := range valid() {
		if !value.Valid(v) {
			t.Errorf("%s is not valid", show(v))
		}
	}
	for _, v := range []api.Value{
		{L: []api.Value{}}, {Kind: api.Int, N: 5, L: []api.Value{}}, {Kind: api.List, L: []api.Value{}}, // empty, but not nil
		{Kind: api.Text, S: "a", L: []api.Value{{Kind: 9}}[:0]}, list([]api.Value{integer(1), {Kind: 9}}[:1]...), // spare capacity
		nested(8, api.Value{}), nested(7, list()), nested(7, list(integer(1), text(""), api.Value{})), // the greatest depth
		list(nested(7, api.Value{}), nested(7, integer(5)), integer(5)),
	} {
		if !value.Valid(v) {
			t.Errorf("%s is not valid", show(v))
		}
	}
}

// P4.1: values that are not valid.
func TestInvalid(t *testing.T) {
	for _, v := range invalid() {
		if value.Valid(v) {
			t.Errorf("%s is valid", show(v))
		}
	}
}

// P4.1: the definition, for values in which one field is another one.
func TestValidDefinition(t *testing.T) {
	r := newRandom()
	for _, v := range randomValues(5000) {
		for range 3 {
			v = changed(r, v)
			if got, want := value.Valid(v), slowValid(v); got != want {
				t.Errorf("Valid of %s: %v", show(v), got)
			}
		}
	}
}

// P4.1: a value is the same as another one if each field is, in valid and in invalid values.
func TestSameDefinition(t *testing.T) {
	r := newRandom()
	check := func(a, b api.Value) {
		want := slowSame(a, b)
		if value.Same(a, b) != want || value.Same(b, a) != want {
			t.Errorf("Same of %s and %s is not %v", show(a), show(b), want)
		}
	}
	vs := append(inOrder(), invalid()...)
	for _, v := range vs {
		check(v, v)
		check(v, slowClone(v))
		check(v, changed(r, v))
		check(changed(r, v), changed(r, v))
		check(v, vs[r.IntN(len(vs))])
		check(list(v, v), list(v))
		check(list(v, changed(r, v)), list(v, v))
	}
	for _, v := range randomValues(2000) {
		check(v, changed(r, v))
	}
}

// P4.1: each field counts, whatever the kind; and all NaNs, and all empty slices, are the same.
func TestSameKnown(t *testing.T) {
	nan, other := float(math.NaN()), float(math.Float64frombits(0xFFF0000000000005))
	for _, kind := range []int{math.MinInt, -1, 0, 1, 2, 3, 4, 5, math.MaxInt} {
		plain := api.Value{Kind: kind}
		for _, v := range []api.Value{
			{Kind: kind + 1}, {Kind: kind + 256}, {Kind: kind + 1<<32}, {Kind: kind, N: 1}, {Kind: kind, F: 1}, {Kind: kind, F: negativeZero}, {Kind: kind, F: math.NaN()},
			{Kind: kind, S: "a"}, {Kind: kind, S: "\x00"}, {Kind: kind, L: []api.Value{{}}}, {Kind: kind, L: []api.Value{{Kind: 9}}},
		} {
			if value.Same(plain, v) || value.Same(v, plain) || !value.Same(v, v) {
				t.Errorf("%s and %s", show(plain), show(v))
			}
		}
		if !value.Same(plain, api.Value{Kind: kind, L: []api.Value{}}) {
			t.Errorf("an empty slice that is not nil, for the kind %d", kind)
		}
	}
	for _, c := range [][2]api.Value{
		{nan, other}, {list(nan), list(other)}, {list(), {Kind: api.List, L: []api.Value{}}},
		{list([]api.Value{nan, nan}[:1]...), list([]api.Value{other, list()}[:1]...)}, {nested(50, nan), nested(50, other)},
	} {
		if !value.Same(c[0], c[1]) {
			t.Errorf("%s and %s", show(c[0]), show(c[1]))
		}
	}
	if value.Same(nested(49, nan), nested(50, nan)) || value.Same(nested(50, nan), nested(50, float(0))) {
		t.Error("deep values")
	}
}

// P4.1: Count of known values.
func TestCountKnown(t *testing.T) {
	for _, c := range []struct {
		v    api.Value
		want int
	}{
		{api.Value{}, 1}, {integer(5), 1}, {float(5), 1}, {text("abc"), 1}, {list(), 1}, {api.Value{Kind: -7}, 1},
		{list(api.Value{}), 2}, {list(integer(1), list(), integer(2)), 4}, {nested(8, api.Value{}), 9}, {nested(50, api.Value{}), 51},
		{api.Value{Kind: api.Int, L: []api.Value{{}, {Kind: 77, L: []api.Value{{}, {}}}}}, 5}, // the kind does not matter
		{list([]api.Value{{}, {}, {}}[:1]...), 2}, {wide()[0], 10000}, {wide()[1], 10000},
	} {
		if got := value.Count(c.v); got != c.want {
			t.Errorf("Count of %s: %d, want %d", show(c.v), got, c.want)
		}
	}
}

// P4.1: the definition of Count, for valid and for invalid values.
func TestCountDefinition(t *testing.T) {
	r := newRandom()
	for _, v := range append(randomValues(2000), invalid()...) {
		v = list(v, changed(r, v))
		if got, want := value.Count(v), slowCount(v); got != want {
			t.Errorf("Count of %s: %d, want %d", show(v), got, want)
		}
	}
}

// P4.2: values in their order, each of them with each other.
func TestCompareKnown(t *testing.T) {
	vs := inOrder()
	for i, a := range vs {
		for k, b := range vs {
			if got, want := value.Compare(a, b), cmp.Compare(i, k); got != want {
				t.Errorf("Compare of %s and %s: %d, want %d", show(a), show(b), got, want)
			}
		}
	}
}

// P4.2: the definition of the order; values that differ in one place are among them.
func TestCompareDefinition(t *testing.T) {
	r := newRandom()
	vs := randomValues(3000)
	check := func(a, b api.Value) {
		want := slowCompare(a, b)
		if value.Compare(a, b) != want || value.Compare(b, a) != -want {
			t.Errorf("Compare of %s and %s is not %d", show(a), show(b), want)
		}
	}
	for _, v := range vs {
		check(v, slowClone(v))
		check(v, vs[r.IntN(len(vs))])
		if w := changed(r, v); slowValid(w) {
			check(v, w)
		}
		for i := range v.L { // a beginning comes before what it begins
			check(v, list(v.L[:i]...))
		}
	}
	big := wide()[0]
	check(big, list(big.L[:9998]...))
	check(big, list(append(slices.Clone(big.L[:9998]), integer(-1))...))
}

// P4.2: Compare ends for values that are not valid, which have no order.
func TestCompareInvalid(t *testing.T) {
	vs := append(invalid(), list(), integer(1))
	for _, a := range vs {
		for _, b := range vs[len(vs)-10:] {
			value.Compare(a, b)
			value.Compare(b, a)
		}
	}
}

// overwrite changes everything in v that others might share.
func overwrite(v api.Value) {
	for i, x := range v.L {
		overwrite(x)
		v.L[i] = api.Value{Kind: -99}
	}
}

// P4.2: Clone returns the same value, which shares no memory, also for invalid values.
func TestClone(t *testing.T) {
	vs := append(valid(), invalid()...)
	vs = append(vs, api.Value{Kind: api.Int, L: []api.Value{list(integer(1)), {Kind: 7, L: []api.Value{{}}}}}, nested(50, list()))
	for _, v := range vs {
		before := slowClone(v)
		c := value.Clone(v)
		if !slowSame(c, before) || !slowSame(v, before) {
			t.Errorf("Clone of %s: %s", show(before), show(c))
		}
		overwrite(c)
		if !slowSame(v, before) {
			t.Errorf("%s was changed with its clone", show(before))
		}
		again := value.Clone(v)
		overwrite(v)
		if !slowSame(again, before) {
			t.Errorf("the clone of %s was changed with it", show(before))
		}
	}
}

// P4.2: no memory is shared behind the end of a list, either.
func TestCloneCapacity(t *testing.T) {
	vs := []api.Value{integer(1), integer(2), integer(3)}
	for n := range vs {
		c := value.Clone(list(vs[:n]...))
		_ = append(c.L, api.Value{Kind: -99})
		if len(c.L) != n || vs[n].Kind != api.Int {
			t.Errorf("Clone of the first %d values: %s", n, show(c))
		}
	}
}

// Rule 4: no call changes its arguments.
func TestArgumentsKept(t *testing.T) {
	for _, v := range append(inOrder(), invalid()...) {
		before := slowClone(v)
		value.Valid(v)
		value.Same(v, v)
		value.Compare(v, list(v))
		value.Count(v)
		value.Bytes(v)
		value.Text(v)
		if !slowSame(v, before) {
			t.Errorf("%s was changed: %s", show(before), show(v))
		}
	}
}

// P4.5: Compare returns 0 exactly for the same valid values, and orders them totally.
func TestOrderTotal(t *testing.T) {
	r := newRandom()
	vs := randomValues(300)
	for _, v := range randomValues(300) {
		if w := changed(r, v); slowValid(w) {
			vs = append(vs, w)
		}
	}
	vs = append(vs, float(math.Float64frombits(0xFFF8000000000001)), list(float(math.Float64frombits(0x7FF0000000000001))))
	slices.SortFunc(vs, value.Compare)
	for i, a := range vs {
		for k, b := range vs {
			c := value.Compare(a, b)
			if i < k && c > 0 || i > k && c < 0 || c != -value.Compare(b, a) {
				t.Errorf("%s and %s at %d and %d: %d", show(a), show(b), i, k, c)
			}
			if (c == 0) != value.Same(a, b) {
				t.Errorf("Compare of %s and %s: %d, Same %v", show(a), show(b), c, c != 0)
			}
		}
	}
}
