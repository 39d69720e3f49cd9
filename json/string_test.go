package json_test

import (
	"fmt"
	"strconv"
	"strings"
	"testing"
	"unicode/utf16"

	"merestone/api"
)

// giveSaid holds what a string says against what it has to say, where it is a value and where it is a key.
func giveSaid(t *testing.T, within, want string) {
	t.Helper()
	give(t, `"`+within+`"`, said(want))
	give(t, `[1,"`+within+`"]`, list(number("1"), said(want)))
	give(t, `{"`+within+`":"`+within+`"}`, object(member{want, said(want)}))
}

// refuseSaid asks for a fault at the first byte of a string, where it is a value and where it is a key.
func refuseSaid(t *testing.T, within string) {
	t.Helper()
	refuse(t, `"`+within+`"`, 0, api.ErrText)
	refuse(t, ` "`+within+`" `, 1, api.ErrText)
	refuse(t, `[1, "`+within+`"]`, 4, api.ErrText)
	refuse(t, `{"`+within+`":1}`, 1, api.ErrText)
	refuse(t, `{"a":1,"b":"`+within+`"}`, 11, api.ErrText)
}

func TestStrings(t *testing.T) {
	for _, text := range []string{
		"", "a", "abc", " ", "  a  b  ", "0", "-1.5e5", "true", "null", "{}", "[1,2]", ":", ",", "{", "]", "/", "//", "/*", "'", "`", "u0041", "x41", "nrt", "%00", "&quot;", "<script>",
		"\x7f", "\u0080", "\u0085", "\u00a0", "\u00e9", "\u07ff", "\u0800", "\u2028\u2029", "\ud7ff", "\ue000", "\ufeff", "\ufffd", "\ufffe", "\uffff", "\U00010000", "\U0001f600", "\U0010ffff",
		"e\u0301", "Gr\u00fc\u00dfe", "\u5730\u7c4d", "\u0434\u043e\u043c",
	} {
		giveSaid(t, text, text)
	}
}

func TestEscapes(t *testing.T) {
	for within, want := range map[string]string{
		`\"`: `"`, `\\`: `\`, `\/`: "/", `\b`: "\x08", `\f`: "\x0c", `\n`: "\x0a", `\r`: "\x0d", `\t`: "\x09",
		`\u0000`: "\x00", `\u0001`: "\x01", `\u001f`: "\x1f", `\u001F`: "\x1f", `\u0020`: " ", `\u0022`: `"`, `\u005c`: `\`, `\u005C`: `\`, `\u002f`: "/", `\u007f`: "\x7f",
		`\u0041`: "A", `\u0080`: "\u0080", `\u00e9`: "\u00e9", `\u07ff`: "\u07ff", `\u0800`: "\u0800", `\ud7ff`: "\ud7ff", `\ue000`: "\ue000", `\ufeff`: "\ufeff", `\ufffd`: "\ufffd", `\ufffe`: "\ufffe", `\uffff`: "\uffff", `\uFfFf`: "\uffff", `\uABCD`: "\uabcd", `\uabcd`: "\uabcd", `\uef90`: "\uef90",
		`\u00411`: "A1", `\u0041\u0042`: "AB", `\\u0041`: `\u0041`, `\\\u0041`: `\A`, `\\n`: `\n`, `\\\n`: "\\\n", `\\\\`: `\\`, `\"\"`: `""`, `a\"b`: `a"b`, `\\\"`: `\"`, `\/\/`: "//", `\b\f\n\r\t`: "\b\f\n\r\t",
		`\\ud800`: `\ud800`, `\u005cud800`: `\ud800`, `\u005cn`: `\n`, `\u005c\u0022`: `\"`,
	} {
		giveSaid(t, within, want)
		giveSaid(t, "a"+within+"b", "a"+want+"b")
		giveSaid(t, within+within, want+want)
	}
}

// Behind a \ each byte is tried, alone and with four digits behind it.
func TestNoEscapes(t *testing.T) {
	for b := range 256 {
		if strings.IndexByte(`"\/bfnrtu`, byte(b)) >= 0 {
			continue
		}
		refuseSaid(t, `\`+string([]byte{byte(b)}))
		refuseSaid(t, `a\`+string([]byte{byte(b)})+`0041`)
	}
	for _, within := range []string{
		`\u`, `\u0`, `\u00`, `\u004`, `\u 041`, `\u004 1`, `\u+041`, `\u-041`, `\u0x41`, `\u{41}`, `\U0041`, `\u004g`, `\u00g1`, `\u0g41`, `\ug041`, `\u004G`, `\u00/1`, `\u00:1`, `\u00@1`, "\\u00`1", `\u00_1`, `\u004\n`, `\u004\u0041`, `\u\u0041`, "\\u\uff10\uff10\uff14\uff11", "\\u004\u00e9", "\\u004\ufffd", "\\u004\xff", `\x41`, `\0`, `\'`, `\a`, `\v`, `\e`, `\N`, `\T`, `\B`, "\\\u00e9", "\\\n", `\ `,
	} {
		refuseSaid(t, within)
		refuseSaid(t, within+"zz")
		refuseSaid(t, "a"+within)
		refuseSaid(t, within+`\n`)
	}
}

// In each of the four places each byte that is no digit.
func TestCodesWithEachByte(t *testing.T) {
	g := grammarOf(1)
	for place := range 4 {
		for b := range 256 {
			code := []byte("0041")
			code[place] = byte(b)
			holdAgainstTheJudge(t, g, `"\u`+string(code)+`"`)
			holdAgainstTheJudge(t, g, `"\ud83d\u`+string(code)+`"`)
		}
	}
}

// All codes, in small digits and in large ones: those that are half a pair can't stand alone.
func TestAllCodes(t *testing.T) {
	for code := range 0x10000 {
		small, large := fmt.Sprintf(`"\u%04x"`, code), fmt.Sprintf(`"\u%04X"`, code)
		if code>>11 == 0xD800>>11 {
			refuse(t, small, 0, api.ErrText)
			refuse(t, large, 0, api.ErrText)
		} else {
			give(t, small, said(string(rune(code))))
			give(t, large, said(string(rune(code))))
		}
	}
}

// Each half with some others behind it, ahead of it, and on both sides.
func TestPairs(t *testing.T) {
	others := []int{0, 0x41, 0xD7FF, 0xD800, 0xD801, 0xD83D, 0xDBFE, 0xDBFF, 0xDC00, 0xDC01, 0xDE00, 0xDFFE, 0xDFFF, 0xE000, 0xFFFD, 0xFFFF}
	for half := 0xD7F0; half <= 0xE010; half++ {
		for _, other := range others {
			holdPair(t, half, other)
			holdPair(t, other, half)
		}
	}
}

func holdPair(t *testing.T, one, other int) {
	t.Helper()
	within := fmt.Sprintf(`\u%04x\u%04X`, one, other)
	first, second := rune(one), rune(other)
	switch pair := utf16.DecodeRune(first, second); {
	case !utf16.IsSurrogate(first) && !utf16.IsSurrogate(second):
		give(t, `"`+within+`"`, said(string([]rune{first, second})))
	case pair != 0xFFFD:
		give(t, `"`+within+`"`, said(string(pair)))
	default:
		refuse(t, `"`+within+`"`, 0, api.ErrText)
	}
}

func TestPairsWrittenOut(t *testing.T) {
	giveSaid(t, `\ud800\udc00`, "\U00010000")
	giveSaid(t, `\uD800\uDC01`, "\U00010001")
	giveSaid(t, `\ud800\udfff`, "\U000103ff")
	giveSaid(t, `\ud801\udc00`, "\U00010400")
	giveSaid(t, `\uD83D\uDE00`, "\U0001f600")
	giveSaid(t, `\ud83D\uDe00`, "\U0001f600")
	giveSaid(t, `\udbff\udc00`, "\U0010fc00")
	giveSaid(t, `\udbff\udfff`, "\U0010ffff")
	giveSaid(t, `a\ud834\udd1eb`, "a\U0001d11eb")
	giveSaid(t, `\ud834\udd1e\ud834\udd1e`, "\U0001d11e\U0001d11e")
	giveSaid(t, `\ud834\udd1eudd1e`, "\U0001d11eudd1e")
	for _, within := range []string{
		`\ud800`, `\udbff`, `\udc00`, `\udfff`, `\uD83D`, `\uDE00`,
		`\udc00\ud800`, `\ude00\ud83d`, `\udfff\udbff`, `\ud800\ud800`, `\udc00\udc00`, `\udbff\udbff`, `\udfff\udfff`,
		`\ud800a`, `\ud800 `, `a\ud800`, `\ud800\n`, `\ud800\"`, `\ud800\\`, `\ud800\/`, `\ud800\\udc00`, `\ud800udc00`, `\ud800\Udc00`, `\ud800/udc00`, `\ud800\dc00`,
		`\ud800\u0041`, `\ud800\udbff`, `\ud800\ue000`, `\ud800\ud7ff`, `\ud800\u`, `\ud800\ud`, `\ud800\udc0`, `\ud800\udc0g`, `\ud800\xdc00`, `\ud800 \udc00`, `\ud800a\udc00`,
		`\ud800\udc00\udc00`, `\ud800\ud800\udc00`, `\ud800\udc00\ud800`, `\ud800\u0041\udc00`, `\udc00a`, `\udc00\n`, `\u0041\udc00`, `\udc00\u0041`, `\udc00\ud800\udc00`, `\udc00\\`,
		"\\ud800\xed\xb0\x80", "\xed\xa0\x80\\udc00", "\\ud800\U0001f600", "\\ud800\u00e9",
	} {
		refuseSaid(t, within)
	}
}

// Bytes below 32 stand in no string but escaped.
func TestBytesBelow32(t *testing.T) {
	for b := range 32 {
		raw := string([]byte{byte(b)})
		refuseSaid(t, raw)
		refuseSaid(t, "a"+raw)
		refuseSaid(t, raw+"a")
		refuseSaid(t, "a"+raw+"b")
		refuseSaid(t, `\n`+raw)
		refuseSaid(t, `\`+raw)
		giveSaid(t, fmt.Sprintf(`\u%04x`, b), raw)
		giveSaid(t, fmt.Sprintf(`a\u%04Xb`, b), "a"+raw+"b")
	}
	for b := 32; b < 128; b++ {
		if b != '"' && b != '\\' {
			giveSaid(t, string(rune(b)), string(rune(b)))
			giveSaid(t, "a"+string(rune(b))+"b", "a"+string(rune(b))+"b")
		}
	}
}

// What is no UTF-8, by name: too long, halves of pairs, above the last one, cut off, parts of the middle alone.
var noUTF8 = []string{
	"\x80", "\xbf", "\x80\x80", "\xc0", "\xc1", "\xc2", "\xdf", "\xe0", "\xef", "\xf0", "\xf4", "\xf5", "\xf7", "\xf8", "\xfc", "\xfe", "\xff",
	"\xc0\x80", "\xc0\xaf", "\xc1\xbf", "\xe0\x80\x80", "\xe0\x80\xaf", "\xe0\x9f\xbf", "\xf0\x80\x80\x80", "\xf0\x80\x80\xaf", "\xf0\x8f\xbf\xbf", "\xf8\x88\x80\x80\x80", "\xfc\x84\x80\x80\x80\x80",
	"\xed\xa0\x80", "\xed\xaf\xbf", "\xed\xb0\x80", "\xed\xbf\xbf", "\xed\xa0\xbd\xed\xb8\x80",
	"\xf4\x90\x80\x80", "\xf4\xbf\xbf\xbf", "\xf5\x80\x80\x80", "\xf7\xbf\xbf\xbf",
	"\xc3", "\xe2\x82", "\xe2", "\xf0\x9f\x98", "\xf0\x9f", "\xe2\x82a", "\xc3a", "\xf0\x9f\x98a", "\xf0\x9fa", "\xe2\xc3\xa9", "\xc3\xc3\xa9", "\xc3\xc3",
	"\xa9\xc3", "\xc3\xa9\xa9", "\xe2\x82\xac\x80", "\xf0\x9f\x98\x80\x80", "\xe9", "\xff\xfe", "\xfe\xff",
}

func TestNoUTF8(t *testing.T) {
	for _, bytes := range noUTF8 {
		refuseSaid(t, bytes)
		refuseSaid(t, "a"+bytes)
		refuseSaid(t, bytes+"a")
		refuseSaid(t, bytes+`\n`)
		refuseSaid(t, "\u00e9"+bytes+"\u00e9")
		refuse(t, `"`+bytes, 0, api.ErrText)
		refuse(t, bytes, 0, api.ErrText)
	}
}

// All strings of one and two bytes, and all of three and four bytes of which each is an edge of RFC 3629's table.
func TestAllUTF8(t *testing.T) {
	var all, edges []string
	for b := range 256 {
		all = append(all, string([]byte{byte(b)}))
	}
	for _, b := range []byte{0x41, 0x7F, 0x80, 0x8F, 0x90, 0x9F, 0xA0, 0xBF, 0xC0, 0xC1, 0xC2, 0xDF, 0xE0, 0xE1, 0xEC, 0xED, 0xEE, 0xEF, 0xF0, 0xF1, 0xF3, 0xF4, 0xF5, 0xFF} {
		edges = append(edges, string([]byte{b}))
	}
	hold := func(text string) {
		if strings.ContainsAny(text, "\"\\") || strings.IndexFunc(text, func(c rune) bool { return c < 32 }) >= 0 {
			return
		}
		if isUTF8(text) {
			give(t, `"`+text+`"`, said(text))
		} else {
			refuse(t, `"`+text+`"`, 0, api.ErrText)
		}
	}
	eachOf(all, 1, hold)
	eachOf(all, 2, hold)
	eachOf(edges, 3, hold)
	eachOf(edges, 4, hold)
}

// All characters stand in a string as they are.
func TestAllCharacters(t *testing.T) {
	for first := rune(32); first <= 0x10FFFF; first += 512 {
		var text strings.Builder
		for c := first; c < first+512 && c <= 0x10FFFF; c++ {
			if c != '"' && c != '\\' && !utf16.IsSurrogate(c) {
				text.WriteRune(c)
			}
		}
		give(t, `"`+text.String()+`"`, said(text.String()))
	}
}

// A string without its end is at fault at its first byte, wherever it stands and whatever else is in it.
func TestStringsWithoutTheirEnd(t *testing.T) {
	for _, open := range []string{
		`"`, `"a`, `"abc `, `"\"`, `"a\"`, `"\\\"`, `"\`, `"\\`, `"a\`, `"\u`, `"\u0`, `"\u004`, `"\u0041`, `"\ud800`, `"\ud800\`, `"\ud800\u`, `"\ud800\udc0`, `"\ud800\udc00`, `"\n`, `"\x`, "\"\n", "\"\x00", "\"\xff", "\"\xe2\x82", "\"\u00e9", `",`, `"]`, `":1}`, `"a]}`,
	} {
		refuse(t, open, 0, api.ErrText)
		refuse(t, "\n "+open, 2, api.ErrText)
		refuse(t, "["+open, 1, api.ErrText)
		refuse(t, "[1,"+open, 3, api.ErrText)
		refuse(t, "{"+open, 1, api.ErrText)
		refuse(t, `{"a": `+open, 6, api.ErrText)
		refuse(t, `["a"`+open, 4, api.ErrText)
		refuse(t, `[] `+open, 3, api.ErrText)
	}
}

// A string ends with the first sign that isn't escaped: what is behind it is the next token.
func TestWhereStringsEnd(t *testing.T) {
	refuse(t, `"a"b"`, 3, api.ErrText)
	refuse(t, `"a""b"`, 3, api.ErrText)
	refuse(t, `"a\\"b"`, 5, api.ErrText)
	refuse(t, `"\\""`, 4, api.ErrText)
	refuse(t, `"\"""`, 4, api.ErrText)
	refuse(t, `"\\\"""`, 6, api.ErrText)
	refuse(t, `["a\"b",c]`, 8, api.ErrText)
	give(t, `["a\"b","\\",""]`, list(said(`a"b`), said(`\`), said("")))
	give(t, `["\\\"","]"]`, list(said(`\"`), said("]")))
	give(t, `{"a\"":"\\"}`, object(member{`a"`, said(`\`)}))
	// The string's fault, and not what would stand behind another end.
	refuse(t, `"\ud800" 5`, 0, api.ErrText)
	refuse(t, "[\"\n\", x]", 1, api.ErrText)
}

// All strings of up to four pieces, and of five of some.
func TestAllStrings(t *testing.T) {
	g := grammarOf(5)
	pieces := []string{"a", `\`, `"`, "u", "n", "0041", "d83d", "de00", `\ud83d`, `\uDE00`, "\u00e9", "\xa9", "\xe2\x82", "\xac", "\x1f", "/"}
	for many := range 5 {
		eachOf(pieces, many, func(text string) { holdAgainstTheJudge(t, g, `"`+text+`"`) })
	}
	eachOf([]string{`\`, `"`, "u", "00", `\ud83d`, `\ude00`, "1"}, 5, func(text string) { holdAgainstTheJudge(t, g, `"`+text+`"`) })
}

// A string says as many characters as it may.
func TestLongStrings(t *testing.T) {
	for _, many := range []int{100, 1000, 40000} {
		giveSaid(t, strings.Repeat("\u00e9", many), strings.Repeat("\u00e9", many))
	}
	many := (most - 2) / 6
	give(t, `"`+strings.Repeat(`\u0000`, many)+`"`, said(strings.Repeat("\x00", many)))
	many = (most - 2) / 12
	give(t, `"`+strings.Repeat(`\ud83d\ude00`, many)+`"`, said(strings.Repeat("\U0001f600", many)))
	quoted := strconv.Quote(strings.Repeat("ab", 1000))
	give(t, quoted, said(strings.Repeat("ab", 1000)))
}
