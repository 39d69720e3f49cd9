package json

import (
	"bytes"
	"strings"
	"unicode/utf8"

	"merestone/api"
)

// theEnd is the kind of what stands behind the last token. The kind of a sign is its byte, that of any other token its value's.
const theEnd = 0

const (
	blanks       = " \t\n\r"
	signs        = "{}[]:,"
	digits       = "0123456789"
	ofNumbers    = digits + "+-.eE"
	smallLetters = "abcdefghijklmnopqrstuvwxyz"
)

type token struct {
	kind int
	at   int    // its first byte
	text string // of a number or a string: its value's Text
}

// fault is what a reader gives up by.
type fault struct {
	at int
	e  api.Errno
}

// wrong answers the fault of a token, to be thrown.
func (t token) wrong(e api.Errno) fault {
	return fault{at: t.at, e: e}
}

// reader has the token that it has come to. It goes on to the next one only if that token can stand where it is, so that the first fault is the one told.
type reader struct {
	token
	input []byte
	end   int // how far it has read: behind the token
}

// value takes a value, which stands within so many lists and objects.
func (r *reader) value(around int) api.Value {
	switch r.kind {
	case '[':
		return r.list(around)
	case '{':
		return r.object(around)
	case api.JNull, api.JFalse, api.JTrue, api.JNumber, api.JString:
		v := api.Value{Kind: r.kind, Text: r.text}
		r.next()
		return v
	}
	panic(r.wrong(api.ErrText))
}

func (r *reader) list(around int) api.Value {
	v := api.Value{Kind: api.JList}
	r.within(around, ']', func() {
		v.List = append(v.List, r.value(around+1))
	})
	return v
}

func (r *reader) object(around int) api.Value {
	v := api.Value{Kind: api.JObject}
	r.within(around, '}', func() {
		r.want(api.JString)
		v.Keys = append(v.Keys, r.text)
		r.next()
		r.take(':')
		v.List = append(v.List, r.value(around+1))
	})
	return v
}

// within takes a list or an object up to its last sign; part takes one part of it.
func (r *reader) within(around, last int, part func()) {
	if around == api.MaxNest {
		panic(r.wrong(api.ErrLarge))
	}
	r.next()
	if r.kind != last {
		part()
		for r.kind != last {
			r.take(',')
			part()
		}
	}
	r.next()
}

// want gives up if the token is of another kind.
func (r *reader) want(kind int) {
	if r.kind != kind {
		panic(r.wrong(api.ErrText))
	}
}

func (r *reader) take(sign int) {
	r.want(sign)
	r.next()
}

// next goes on to the next token.
func (r *reader) next() {
	r.run(blanks)
	r.token = token{kind: theEnd, at: r.end}
	if r.end == len(r.input) {
		return
	}
	switch first := r.input[r.end]; {
	case strings.IndexByte(signs, first) >= 0:
		r.kind = int(first)
		r.end++
	case first == '"':
		r.kind, r.text = api.JString, r.said()
	case strings.IndexByte(smallLetters, first) >= 0:
		r.kind = r.word()
	case strings.IndexByte(ofNumbers, first) >= 0:
		r.kind, r.text = api.JNumber, r.number()
	default:
		panic(r.wrong(api.ErrText))
	}
}

// run reads on as long as there are bytes of that set, and answers them.
func (r *reader) run(set string) string {
	begin := r.end
	r.end = len(r.input) - len(bytes.TrimLeft(r.input[begin:], set))
	return string(r.input[begin:r.end])
}

// word answers the kind of the value that is a word.
func (r *reader) word() int {
	switch r.run(smallLetters) {
	case "null":
		return api.JNull
	case "false":
		return api.JFalse
	case "true":
		return api.JTrue
	}
	panic(r.wrong(api.ErrText))
}

func (r *reader) number() string {
	text := r.run(ofNumbers)
	if !isNumber(text) {
		panic(r.wrong(api.ErrText))
	}
	return text
}

// isNumber answers whether a text is a number as RFC 8259 has them.
func isNumber(text string) bool {
	whole, rest := cutDigits(strings.TrimPrefix(text, "-"))
	if whole == "" || whole[0] == '0' && whole != "0" {
		return false
	}
	if behind, pointed := strings.CutPrefix(rest, "."); pointed {
		fraction, beyond := cutDigits(behind)
		if fraction == "" {
			return false
		}
		rest = beyond
	}
	return rest == "" || isExponent(rest)
}

func isExponent(text string) bool {
	if text[0] != 'e' && text[0] != 'E' {
		return false
	}
	power := text[1:]
	if power != "" && (power[0] == '+' || power[0] == '-') {
		power = power[1:]
	}
	number, rest := cutDigits(power)
	return number != "" && rest == ""
}

// cutDigits answers the digits with which a text begins, and what is behind them.
func cutDigits(text string) (string, string) {
	rest := strings.TrimLeft(text, digits)
	return text[:len(text)-len(rest)], rest
}

// said reads a string, and answers what it says.
func (r *reader) said() string {
	var text strings.Builder
	r.end++
	for {
		c := r.char()
		switch {
		case c == '"':
			return text.String()
		case c == '\\':
			c = r.escaped()
		case c < ' ':
			panic(r.wrong(api.ErrText))
		}
		text.WriteRune(c)
	}
}

// char reads a character of a string, which must not end here.
func (r *reader) char() rune {
	c, size := utf8.DecodeRune(r.input[r.end:])
	// The replacement character may stand there itself: it has three bytes.
	if c == utf8.RuneError && size < 3 {
		panic(r.wrong(api.ErrText))
	}
	r.end += size
	return c
}

// escaped reads what is behind a \, and answers the character.
func (r *reader) escaped() rune {
	switch c := r.char(); c {
	case '"', '\\', '/':
		return c
	case 'b':
		return '\b'
	case 'f':
		return '\f'
	case 'n':
		return '\n'
	case 'r':
		return '\r'
	case 't':
		return '\t'
	case 'u':
		return r.coded()
	}
	panic(r.wrong(api.ErrText))
}

// coded reads what is behind \u; of half a pair the other half too.
func (r *reader) coded() rune {
	one := r.unit()
	if utf8.ValidRune(one) {
		return one
	}
	if r.char() != '\\' || r.char() != 'u' {
		panic(r.wrong(api.ErrText))
	}
	other := r.unit()
	if !between(one, 0xD800, 0xDBFF) || !between(other, 0xDC00, 0xDFFF) {
		panic(r.wrong(api.ErrText))
	}
	return 0x10000 + (one-0xD800)<<10 + (other - 0xDC00)
}

func between(c, low, high rune) bool {
	return low <= c && c <= high
}

// unit reads four hexadecimal digits, large or small.
func (r *reader) unit() rune {
	var n rune
	for range 4 {
		digit := strings.IndexRune("0123456789abcdefABCDEF", r.char())
		switch {
		case digit < 0:
			panic(r.wrong(api.ErrText))
		case digit > 15:
			digit -= 6
		}
		n = n<<4 + rune(digit)
	}
	return n
}
