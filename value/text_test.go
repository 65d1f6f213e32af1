package value_test

import (
	"fmt"
	"math"
	"regexp"
	"strconv"
	"strings"
	"testing"

	"clockwork/api"
	"clockwork/num"
	"clockwork/value"
)

// slowText writes the text of a valid value.
func slowText(v api.Value) string {
	switch v.Kind {
	case api.Int:
		return fmt.Sprintf("%d", v.N)
	case api.Float:
		return "#" + num.Text(v.F)
	case api.Text:
		return fmt.Sprintf(`"%x"`, v.S)
	case api.List:
		var texts []string
		for _, x := range v.L {
			texts = append(texts, slowText(x))
		}
		return "[" + strings.Join(texts, " ") + "]"
	}
	return "nil"
}

var (
	intForm  = regexp.MustCompile(`^(0|-?[1-9][0-9]*)$`)
	textForm = regexp.MustCompile(`^"([0-9a-f][0-9a-f])*"$`)
)

// slowParse tells texts by their forms, and cuts Lists at the spaces that are in no other List.
func slowParse(s string, depth int) (api.Value, bool) {
	n, err := strconv.ParseInt(s, 10, 64)
	switch {
	case s == "nil":
		return api.Value{}, true
	case intForm.MatchString(s) && err == nil:
		return integer(n), true
	case strings.HasPrefix(s, "#"):
		f, ok := num.Parse(s[1:])
		return float(f), ok
	case textForm.MatchString(s):
		var b []byte
		_, err := fmt.Sscanf(s, `"%x"`, &b)
		return text(string(b)), err == nil || s == `""`
	case len(s) >= 2 && s[0] == '[' && s[len(s)-1] == ']' && depth > 0:
		return slowParseList(s[1:len(s)-1], depth)
	}
	return api.Value{}, false
}

func slowParseList(s string, depth int) (api.Value, bool) {
	if s == "" {
		return list(), true
	}
	var vs []api.Value
	open, begin := 0, 0
	s += " "
	for i := range len(s) {
		switch s[i] {
		case '[':
			open++
		case ']':
			open--
		}
		if open < 0 {
			return api.Value{}, false
		}
		if s[i] != ' ' || open > 0 {
			continue
		}
		v, ok := slowParse(s[begin:i], depth-1)
		if !ok {
			return api.Value{}, false
		}
		vs = append(vs, v)
		begin = i + 1
	}
	return list(vs...), open == 0
}

// checkNoText checks that s is the text of no value.
func checkNoText(t *testing.T, s string) {
	t.Helper()
	if v, ok := value.Parse(s); ok || !slowSame(v, api.Value{}) {
		t.Errorf("Parse of %.100q: %s, %v", s, show(v), ok)
	}
}

// P4.4: known texts, in both directions.
func TestTextKnown(t *testing.T) {
	for want, v := range map[string]api.Value{
		"nil": {}, "0": integer(0), "-1": integer(-1), "7": integer(7), "10": integer(10), "-100": integer(-100),
		"9223372036854775807": integer(math.MaxInt64), "-9223372036854775808": integer(math.MinInt64),
		"#0": float(0), "#-0": float(negativeZero), "#inf": float(math.Inf(1)), "#-inf": float(math.Inf(-1)),
		"#nan":               float(math.NaN()),
		"#x3ff8000000000000": float(1.5), "#xc000000000000000": float(-2),
		`""`: text(""), `"61"`: text("a"), `"61ff"`: text("a\xFF"), `"00"`: text("\x00"), `"0a5b205d22"`: text("\n[ ]\""),
		`"c3a9"`: text("é"), `"6e696c"`: text("nil"), `"abcdef0123456789"`: text("\xAB\xCD\xEF\x01\x23\x45\x67\x89"),
		"[]": list(), "[nil]": list(api.Value{}), "[[]]": list(list()), `[-5 "61"]`: list(integer(-5), text("a")),
		`[1 [""] nil]`:     list(integer(1), list(text("")), api.Value{}),
		"[[] [] [1 #0]]":   list(list(), list(), list(integer(1), float(0))),
		"[[[[[[[[]]]]]]]]": nested(7, list()), "[[[[[[[[nil]]]]]]]]": nested(8, api.Value{}),
		"[[[[[[1 2] 3]] 4]] []]": list(list(list(list(list(list(integer(1), integer(2)), integer(3))), integer(4))), list()),
	} {
		if got := value.Text(v); got != want {
			t.Errorf("Text of %s: %q, want %q", show(v), got, want)
		}
		if got, ok := value.Parse(want); !ok || !slowSame(got, v) {
			t.Errorf("Parse of %q: %s, %v", want, show(got), ok)
		}
	}
}

// P4.4: the definition of the text. All NaNs have the same one.
func TestTextDefinition(t *testing.T) {
	vs := valid()
	for b := range 256 {
		vs = append(vs, text(string([]byte{byte(b)})))
	}
	for _, bits := range []uint64{0x7FF0000000000001, 0x7FF8000000000000, 0xFFF8000000000001, math.MaxUint64} {
		vs = append(vs, float(math.Float64frombits(bits)), list(text("a"), float(math.Float64frombits(bits))))
	}
	for _, v := range vs {
		if got, want := value.Text(v), slowText(v); got != want {
			t.Errorf("Text of %s: %.100q, want %.100q", show(v), got, want)
		}
	}
}

// P4.4: the text of invalid values is empty.
func TestTextInvalid(t *testing.T) {
	for _, v := range invalid() {
		if got := value.Text(v); got != "" {
			t.Errorf("Text of %s: %.100q", show(v), got)
		}
	}
}

// P4.4 and P4.5: Parse inverts Text.
func TestParseInverts(t *testing.T) {
	for _, v := range valid() {
		s := value.Text(v)
		got, ok := value.Parse(s)
		if !ok || !slowSame(got, v) || !value.Valid(got) || !value.Same(got, v) {
			t.Errorf("Parse of %.100q: %s, %v", s, show(got), ok)
		}
		checkNoText(t, s+" ")
		checkNoText(t, " "+s)
		checkNoText(t, s+"]")
		checkNoText(t, "["+s)
		checkNoText(t, s+"\x00")
		checkNoText(t, s+" "+s)
	}
}

// P4.4: texts that are the text of no value.
func TestParseRejects(t *testing.T) {
	for _, s := range []string{
		"", " ", "\x00", "\xFF", "é", ",", "()", "{}", "x", "null", "Nil", "NIL", "nill", "ni", "nil ", " nil", "nilnil",
		"nil nil", "-nil", "#nil", "\"nil\"",
		"-", "--1", "+", "+1", "+0", "-0", "-00", "00", "01", "007", "-01", "- 1", "1 ", " 1", "1-", "1_000", "1e3",
		"1.0", "1.", ".5", "0x1", "0b1", "1L", "1\n", "٣", "１",
		"9223372036854775808", "-9223372036854775809", "18446744073709551615", "18446744073709551616",
		strings.Repeat("9", 1000), "-" + strings.Repeat("9", 1000), "0" + strings.Repeat("0", 1000),
		"#", "##0", "#x", "#1", "#-1", "#1.5", "#+0", "#00", "#NaN", "#Inf", "#-nan", "#infinity", "# 0", "#0 ", "nan",
		"inf", "-inf", "x3ff0000000000000", "0#", "#\"\"", "#[]",
		"#x3FF0000000000000", "#x3ff000000000000", "#x3ff00000000000000", "#x0000000000000000", "#x8000000000000000",
		"#x7ff0000000000000", "#x7ff8000000000001", "#x7ff8000000000000",
		`"`, `"""`, `"6`, `6"`, `"6"`, `"616"`, `"6 1"`, `" 61"`, `"61 "`, `"6A"`, `"6a`, `6a"`, `"AB"`, `"Ab"`, `"aB"`,
		`"6g"`, `"g6"`, `"+1"`, `"-1"`, `"0x"`, `"x1"`, `"a_"`, `"__"`, `"é"`, `"61""62"`, `"61"62"`, `'61'`, `"\x61"`,
		`"61`, `""61""`, `"61"x`, `x"61"`, `"61]"`, `"[]"`, "\"6\x00\"", "\"\x00\x00\"",
		"[", "]", "][", "[ ]", "[  ]", "[1", "1]", "[1 ]", "[ 1]", "[1  2]", "[1 2 ]", "[1,2]", "[1, 2]", "[1\t2]",
		"[1\n2]", "[1 2", "[1]]", "[[1]", "[1][2]", "[1] [2]", "[[1][2]]", "[[1]2]", "[1[2]]", "[[1]  [2]]", "[[] ]",
		"[ []]", "[][]", "[[]", "[]]", "[]nil", "nil[]", "[]1", "1[]", "-[]", "[nil", "nil]", "[nilnil]", "[nil,nil]",
		"[01]", "[+1]", "[-0]", "[#]", "[#1]", `["6"]`, `["6A"]`, `[""""]`, `["61""62"]`, `["61" "6"]`,
		"[9223372036854775808]", "[1 nul]", "[[[-0]]]", "[x]", "[] ", " []", "[] []", "[]\n",
		"[[[[[[[[[]]]]]]]]]", "[[[[[[[[[nil]]]]]]]]]", "[1 [[[[[[[[2]]]]]]]] 3]", "[[[[[[[[]]]]]]]", "[[[[[[[[]]]]]]]]]",
	} {
		checkNoText(t, s)
		checkParse(t, "["+s+"]")
		checkParse(t, "[1 "+s+" 2]")
	}
}

// P4.4: a value may be 8 deep, but not more, however long the text is.
func TestParseDeep(t *testing.T) {
	for lists := range 51 {
		for _, inner := range []api.Value{{}, list(), list(integer(1), text("a")), float(1)} {
			v := nested(lists, inner)
			s := slowText(v)
			if slowDepth(v) > 8 {
				checkNoText(t, s)
				checkNoText(t, "[1 [] "+s+" 2]")
				continue
			}
			if got, ok := value.Parse(s); !ok || !slowSame(got, v) {
				t.Errorf("Parse of %q: %s, %v", s, show(got), ok)
			}
		}
	}
	const n = 1 << 20
	for _, one := range []string{"[", "]", "[[] ", "[1 ", "[]", " ", "#", "\"", "1", "-", "nil", "\"\" "} {
		many := strings.Repeat(one, n)
		checkNoText(t, many)
		checkNoText(t, "["+many)
		checkNoText(t, many+strings.Repeat("]", n))
	}
}

// P4.4: Lists of many values, and texts of many bytes.
func TestParseLong(t *testing.T) {
	const n = 1 << 18
	for _, c := range []struct {
		s    string
		want api.Value
	}{
		{"[" + strings.Repeat("nil ", n-1) + "nil]", list(make([]api.Value, n)...)},
		{`"` + strings.Repeat("61", n) + `"`, text(strings.Repeat("a", n))},
	} {
		got, ok := value.Parse(c.s)
		if !ok || !slowSame(got, c.want) || value.Text(got) != c.s {
			t.Errorf("Parse of %.20q: %s, %v", c.s, show(got), ok)
		}
	}
}

// checkParse checks the value with a text.
func checkParse(t *testing.T, s string) {
	t.Helper()
	want, is := slowParse(s, api.MaxDepth)
	if !is {
		checkNoText(t, s)
		return
	}
	if got, ok := value.Parse(s); !ok || !slowSame(got, want) {
		t.Errorf("Parse of %q: %s, %v, want %s", s, show(got), ok, show(want))
	}
}

// P4.4 and P4.5: texts in which one byte is another one, is missing, or is there twice.
func TestParseDamaged(t *testing.T) {
	for _, v := range inOrder() {
		s := slowText(v)
		for i := range len(s) {
			checkParse(t, s[:i])
			checkParse(t, s[:i]+s[i+1:])
			checkParse(t, s[:i+1]+s[i:])
			if len(s) > 60 && 2 < i && i < len(s)-1 {
				continue
			}
			for b := range 256 {
				c := string([]byte{byte(b)})
				checkParse(t, s[:i]+c+s[i+1:])
				checkParse(t, s[:i]+c+s[i:])
			}
		}
	}
}

// P4.4 and P4.5: random words, with and without what belongs between them.
func TestParseRandom(t *testing.T) {
	r := newRandom()
	words := []string{"[", "[", "]", "]", " ", " ", "nil", "1", "-", "0", "#", "inf", "\"", "\"61\"", "a", "F", "[]", "+"}
	accepted := 0
	for range 300000 {
		var s strings.Builder
		for range r.IntN(8) {
			s.WriteString(words[r.IntN(len(words))])
		}
		checkParse(t, s.String())
		checkParse(t, "["+s.String()+"]")
		if _, ok := value.Parse("[" + s.String() + "]"); ok {
			accepted++
		}
	}
	if accepted < 1000 {
		t.Errorf("only %d of the texts are the text of a value", accepted)
	}
}

// P4.4: the values that Parse returns share no memory with each other.
func TestParseApart(t *testing.T) {
	first, _ := value.Parse("[[1] [1]]")
	second, _ := value.Parse("[[1] [1]]")
	overwrite(first.L[0])
	if want := list(list(integer(1)), list(integer(1))); !slowSame(second, want) || !slowSame(first.L[1], want.L[1]) {
		t.Errorf("%s and %s", show(first), show(second))
	}
}

// P4.5: different values have different texts, and the same value has one.
func TestTextsDiffer(t *testing.T) {
	seen := map[string]api.Value{}
	for _, v := range append(inOrder(), randomValues(20000)...) {
		s := value.Text(v)
		if before, ok := seen[s]; ok && !slowSame(before, v) {
			t.Errorf("%s and %s have the text %q", show(before), show(v), s)
		}
		seen[s] = v
	}
}
