package value

import (
	"strconv"
	"strings"

	"clockwork/api"
	"clockwork/bin"
	"clockwork/num"
)

// read reads the form of a value with a depth of at most depth, and returns its content, or nil if there is none.
func read(r *bin.Reader, depth int) content {
	var c content
	switch r.Uint() {
	case api.Nil: // also what a failed read returns
		c = nilContent{}
	case api.Int:
		c = intContent(r.Int())
	case api.Float:
		c = readFloat(r)
	case api.Text:
		c = textContent(r.Text())
	case api.List:
		c = readList(r, depth)
	}
	if !r.Ok() {
		return nil
	}
	return c
}

// readFloat returns nil for the bits of a NaN other than the NaN, and anything if the read fails.
func readFloat(r *bin.Reader) content {
	var bits uint64
	for _, b := range r.Take(floatSize) {
		bits = bits<<8 | uint64(b)
	}
	f, ok := num.Of(bits)
	if !ok {
		return nil
	}
	return floatContent(f)
}

// readList returns nil if there is no List with a depth of at most depth, and anything if the read of its number of
// values fails.
func readList(r *bin.Reader, depth int) content {
	if depth == 0 {
		return nil
	}
	var l listContent
	for range r.Uint() { // which may be any number: the first value that is not there ends the loop
		c := read(r, depth-1)
		if c == nil {
			return nil
		}
		l = append(l, whole(c))
	}
	return l
}

// guess returns the content of the only value with a depth of at most depth whose text s may begin with, and what comes
// behind this text. It returns nil if there is none, but what it returns need not have this text: Parse finds out.
func guess(s string, depth int) (content, string) {
	if rest, ok := strings.CutPrefix(s, listBegin); ok {
		return guessList(rest, depth)
	}
	end := strings.IndexAny(s, space+listEnd) // all texts but those of Lists have neither of them
	if end < 0 {
		end = len(s)
	}
	return guessOne(s[:end]), s[end:]
}

// guessList is guess for a List, behind its first bracket.
func guessList(s string, depth int) (content, string) {
	if depth == 0 {
		return nil, ""
	}
	var l listContent
	for {
		if rest, ok := strings.CutPrefix(s, listEnd); ok {
			return l, rest
		}
		c, rest := guess(strings.TrimPrefix(s, space), depth-1)
		if c == nil {
			return nil, ""
		}
		l = append(l, whole(c))
		s = rest
	}
}

// guessOne returns the content of the only value but a List that may have the text s, or nil if there is none.
func guessOne(s string) content {
	if s == nilText {
		return nilContent{}
	}
	if digits, ok := strings.CutPrefix(s, quote); ok {
		return guessText(strings.TrimSuffix(digits, quote))
	}
	if t, ok := strings.CutPrefix(s, floatMark); ok {
		f, ok := num.Parse(t)
		if !ok {
			return nil
		}
		return floatContent(f)
	}
	n, err := strconv.ParseInt(s, 10, 64)
	if err != nil {
		return nil
	}
	return intContent(n)
}

// guessText returns the bytes with some hexadecimal digits, or any bytes if they are none.
func guessText(digits string) content {
	var b []byte
	for ; len(digits) >= 2; digits = digits[2:] {
		x, _ := strconv.ParseUint(digits[:2], 16, 8) // without an error: what is wrong, Parse finds out
		b = append(b, byte(x))
	}
	return textContent(b)
}
