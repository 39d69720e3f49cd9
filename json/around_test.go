package json_test

import (
	"fmt"
	"math/rand/v2"
	"strings"
	"testing"
	"unicode/utf16"

	"merestone/api"
	"merestone/json"
)

// giveBack asks that Print of a value is a text of which Parse is the value again.
func giveBack(t *testing.T, v api.Value) {
	t.Helper()
	b, e := json.Print(v)
	if e != api.OK || len(b) == 0 || len(b) > most {
		t.Errorf("Print(%s): %d bytes, %d", brief(v), len(b), e)
		return
	}
	give(t, string(b), v)
}

// maker makes values, and texts of them in all forms that the chapter lets stand; the same ones each time.
type maker struct{ *rand.Rand }

func newMaker() maker {
	return maker{rand.New(rand.NewPCG(11, 8259))}
}

func (m maker) pick(texts ...string) string {
	return texts[m.IntN(len(texts))]
}

func (m maker) number() string {
	text := m.pick("", "-") + m.pick("0", "1", "7", "10", "90210", "12345678901234567890123")
	text += m.pick("", "", ".0", ".5", ".25", ".000", ".0123456789")
	return text + m.pick("", "", "e0", "E7", "e+10", "E-05", "e-308", "E+00")
}

func (m maker) char() rune {
	switch m.IntN(8) {
	case 0:
		return rune(m.IntN(32))
	case 1:
		return []rune(`"\/u{}[]:,`)[m.IntN(10)]
	case 2:
		return 0x7F + rune(m.IntN(0x1000))
	case 3:
		return 0xE000 + rune(m.IntN(0x2000))
	case 4:
		return 0x10000 + rune(m.IntN(0x100000))
	}
	return ' ' + rune(m.IntN(95))
}

func (m maker) said() string {
	var text strings.Builder
	for range m.IntN(7) {
		text.WriteRune(m.char())
	}
	return text.String()
}

func (m maker) value(deep int) api.Value {
	kind := 1 + m.IntN(7)
	if kind < api.JList || deep == 0 {
		return []api.Value{null(), {Kind: api.JFalse}, {Kind: api.JTrue}, number(m.number()), said(m.said())}[m.IntN(5)]
	}
	v := api.Value{Kind: kind}
	for range m.IntN(5) {
		if kind == api.JObject {
			v.Keys = append(v.Keys, m.said())
		}
		v.List = append(v.List, m.value(deep-1))
	}
	return v
}

// quoted answers a string with each character in one of the forms that it may have.
func (m maker) quoted(text string) string {
	var b strings.Builder
	for _, c := range text {
		short := strings.IndexRune("\"\\/\b\f\n\r\t", c)
		switch form := m.IntN(3); {
		case form == 0 && short >= 0:
			b.WriteString(`\` + `"\/bfnrt`[short:short+1])
		case form < 2 && c >= 32 && c != '"' && c != '\\':
			b.WriteRune(c)
		case c > 0xFFFF:
			one, other := utf16.EncodeRune(c)
			b.WriteString(m.code(one) + m.code(other))
		default:
			b.WriteString(m.code(c))
		}
	}
	return `"` + b.String() + `"`
}

func (m maker) code(c rune) string {
	if m.IntN(2) == 0 {
		return fmt.Sprintf(`\u%04x`, c)
	}
	return fmt.Sprintf(`\u%04X`, c)
}

// text answers a text of a value, with blanks wherever they may stand.
func (m maker) text(v api.Value) string {
	blank := func() string { return m.pick("", "", "", " ", "\n", "\r\n", "\t ") }
	var text string
	switch v.Kind {
	case api.JNull:
		text = "null"
	case api.JFalse:
		text = "false"
	case api.JTrue:
		text = "true"
	case api.JNumber:
		text = v.Text
	case api.JString:
		text = m.quoted(v.Text)
	default:
		var parts []string
		for i, part := range v.List {
			if v.Kind == api.JObject {
				parts = append(parts, blank()+m.quoted(v.Keys[i])+blank()+":"+m.text(part))
			} else {
				parts = append(parts, m.text(part))
			}
		}
		signs := map[int]string{api.JList: "[]", api.JObject: "{}"}[v.Kind]
		text = signs[:1] + blank() + strings.Join(parts, ",") + signs[1:]
	}
	return blank() + text + blank()
}

func TestParseOfPrint(t *testing.T) {
	m := newMaker()
	for i := range 20000 {
		v := m.value(i % 7)
		giveBack(t, v)
		giveBack(t, wrapped(v, nest-6))
	}
}

func TestPrintOfParse(t *testing.T) {
	m := newMaker()
	for i := range 20000 {
		v := m.value(i % 6)
		holdPrintOfParse(t, m.text(v), v)
	}
}

// holdPrintOfParse asks that a text tells v, that this is printed no longer than the text is, and that what is printed tells v too and is printed as it is.
func holdPrintOfParse(t *testing.T, text string, v api.Value) {
	t.Helper()
	give(t, text, v)
	parsed, _, _ := json.Parse([]byte(text))
	b, e := json.Print(parsed)
	if e != api.OK || len(b) > len(text) {
		t.Errorf("Print of Parse of %s: %s, %d", brief(text), brief(string(b)), e)
		return
	}
	both(t, string(b), v)
}

// Texts that are as long as may be can be printed: nothing is printed longer than it was written.
func TestPrintOfParseOfLongTexts(t *testing.T) {
	for _, piece := range []string{"a", "\u00e9", "\u5730", "\U0001f600", `\"`, `\\`, `\/`, `\n`, `\u0000`, `\u000a`, `\u0022`, `\u00e9`, `\ud83d\ude00`, "\x7f"} {
		many := (most - 2) / len(piece)
		text := `"` + strings.Repeat(piece, many) + strings.Repeat("p", (most-2)%len(piece)) + `"`
		holdPrintOfParse(t, text, valueOf(text))
	}
	for _, piece := range []string{"1,", "[],", "{},", "null,", `"",`, "[[],{}],", `{"a":1},`, " 1 , "} {
		many := (most - 3) / len(piece)
		text := "[" + strings.Repeat(piece, many) + "1" + strings.Repeat(" ", (most-3)%len(piece)) + "]"
		holdPrintOfParse(t, text, valueOf(text))
	}
}

// Each text that Parse takes is taken again as it is printed; all of up to five pieces.
func TestPrintOfParseOfAllPieces(t *testing.T) {
	pieces := []string{"{", "}", "[", "]", ":", ",", `"b"`, `"\u000a"`, "0", "-1.50E+2", "null", " "}
	texts := 0
	for many := range 6 {
		eachOf(pieces, many, func(text string) {
			v, _, e := json.Parse([]byte(text))
			if e == api.OK {
				holdPrintOfParse(t, text, v)
				texts++
			}
		})
	}
	if texts < 200 {
		t.Errorf("%d texts", texts)
	}
}

// One byte of a text is changed, left out or put in: what Parse tells then is what the judge does.
func TestTextsWithOneByteChanged(t *testing.T) {
	g := grammarOf(13)
	for _, text := range []string{`{"a":1}`, `[1,"b"]`, ` [ null ] `, `["\u0041"]`, `[-1.5e3]`, `{"":[]}`, `"\ud83d\ude00"`, "\"\u00e9\U0001f600\""} {
		for i := range len(text) + 1 {
			if i < len(text) {
				holdAgainstTheJudge(t, g, text[:i]+text[i+1:])
			}
			for b := range 256 {
				put := string([]byte{byte(b)})
				holdAgainstTheJudge(t, g, text[:i]+put+text[i:])
				if i < len(text) {
					holdAgainstTheJudge(t, g, text[:i]+put+text[i+1:])
				}
			}
		}
	}
}
