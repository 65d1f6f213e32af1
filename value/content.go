package value

import (
	"strconv"
	"strings"

	"clockwork/api"
	"clockwork/bin"
	"clockwork/num"
)

// floatSize is the number of bytes of the bits of a number.
const floatSize = 8

// Parts of texts.
const (
	nilText   = "nil"
	floatMark = "#"
	quote     = `"`
	listBegin = "["
	listEnd   = "]"
	space     = " "
	hexDigits = "0123456789abcdef"
)

// content is what a value has in the field of its kind. Each kind has a type of its own.
type content interface {
	// form returns what the form of the value has behind the kind, but not the values of a List.
	form() []byte
	// text returns the text of the value, which must be valid.
	text() string
}

type (
	nilContent   struct{}
	intContent   int64
	floatContent float64
	textContent  string
	listContent  []api.Value
)

// contentOf returns the content of v, or nil if there is no such kind.
func contentOf(v api.Value) content {
	switch v.Kind {
	case api.Nil:
		return nilContent{}
	case api.Int:
		return intContent(v.N)
	case api.Float:
		return floatContent(v.F)
	case api.Text:
		return textContent(v.S)
	case api.List:
		return listContent(v.L)
	}
	return nil
}

// whole returns the value with a content and nothing else, or a zero Value if there is no content.
func whole(c content) api.Value {
	switch x := c.(type) {
	case intContent:
		return api.Value{Kind: api.Int, N: int64(x)}
	case floatContent:
		return api.Value{Kind: api.Float, F: float64(x)}
	case textContent:
		return api.Value{Kind: api.Text, S: string(x)}
	case listContent:
		return api.Value{Kind: api.List, L: x}
	}
	return api.Value{}
}

func (nilContent) form() []byte { return nil }

func (c intContent) form() []byte { return bin.Int(int64(c)) }

func (c floatContent) form() []byte {
	bits := num.Bits(float64(c))
	form := make([]byte, floatSize)
	for i := range form {
		form[floatSize-1-i] = byte(bits >> (8 * i))
	}
	return form
}

func (c textContent) form() []byte { return bin.Text(string(c)) }

func (c listContent) form() []byte { return bin.Uint(uint64(len(c))) }

func (nilContent) text() string { return nilText }

func (c intContent) text() string { return strconv.FormatInt(int64(c), 10) }

func (c floatContent) text() string { return floatMark + num.Text(float64(c)) }

func (c textContent) text() string {
	b := []byte(quote)
	for i := range len(c) {
		b = append(b, hexDigits[c[i]>>4], hexDigits[c[i]&15])
	}
	return string(b) + quote
}

func (c listContent) text() string {
	texts := make([]string, len(c))
	for i, x := range c {
		texts[i] = contentOf(x).text()
	}
	return listBegin + strings.Join(texts, space) + listEnd
}
