package json_test

import (
	"math"
	"slices"
	"strings"
	"testing"

	"merestone/api"
)

func TestPrintOfEachKind(t *testing.T) {
	givePrint(t, null(), "null")
	givePrint(t, api.Value{Kind: api.JFalse}, "false")
	givePrint(t, api.Value{Kind: api.JTrue}, "true")
	givePrint(t, number("-1.50E+07"), "-1.50E+07")
	givePrint(t, said("a b"), `"a b"`)
	givePrint(t, said(""), `""`)
	givePrint(t, list(), "[]")
	givePrint(t, object(), "{}")
	givePrint(t, list(number("1"), said("aA")), `[1,"aA"]`)
	givePrint(t, list(list(), object(), null()), "[[],{},null]")
	givePrint(t, object(member{"b", number("1")}, member{"a", list(number("2"))}, member{"b", null()}), `{"b":1,"a":[2],"b":null}`)
	givePrint(t, object(member{"", object(member{"", said("")})}), `{"":{"":""}}`)
	givePrint(t, object(member{"a\"\n", said("a\"\n")}), `{"a\"\n":"a\"\n"}`)
}

// A value is handed in with nil lists or with empty ones.
func TestPrintOfEmptyLists(t *testing.T) {
	for kind, want := range map[int]string{api.JNull: "null", api.JFalse: "false", api.JTrue: "true", api.JString: `""`, api.JList: "[]", api.JObject: "{}"} {
		givePrint(t, api.Value{Kind: kind}, want)
		givePrint(t, api.Value{Kind: kind, Keys: []string{}, List: []api.Value{}}, want)
		givePrint(t, api.Value{Kind: kind, Keys: make([]string, 0, 3), List: make([]api.Value, 0, 3)}, want)
	}
	givePrint(t, api.Value{Kind: api.JNumber, Text: "7", Keys: []string{}, List: []api.Value{}}, "7")
}

// Which values are sound

// refuseWithin asks for ErrForm of a value, and of others that have it within them: in each place, and as deep as may be.
func refuseWithin(t *testing.T, v api.Value) {
	t.Helper()
	refusePrint(t, v, api.ErrForm)
	refusePrint(t, list(v), api.ErrForm)
	refusePrint(t, list(v, null(), list()), api.ErrForm)
	refusePrint(t, list(null(), v, list()), api.ErrForm)
	refusePrint(t, list(null(), list(), v), api.ErrForm)
	refusePrint(t, list(list(), list(null(), list(v))), api.ErrForm)
	refusePrint(t, object(member{"a", v}), api.ErrForm)
	refusePrint(t, object(member{"a", v}, member{"b", null()}), api.ErrForm)
	refusePrint(t, object(member{"a", null()}, member{"b", v}), api.ErrForm)
	refusePrint(t, object(member{"a", list(object(member{"b", v}))}), api.ErrForm)
	refusePrint(t, wrapped(v, nest-1), api.ErrForm)
	refusePrint(t, list(said(strings.Repeat("a", most)), v), api.ErrForm)
}

// wrapped answers a value within so many others, one in the other: lists and objects, with others beside.
func wrapped(v api.Value, many int) api.Value {
	for i := range many {
		switch i % 4 {
		case 0:
			v = list(v)
		case 1:
			v = object(member{"a", v})
		case 2:
			v = list(null(), v, number("1"))
		case 3:
			v = object(member{"a", null()}, member{"b", v}, member{"c", said("")})
		}
	}
	return v
}

func TestKindsThatAreNone(t *testing.T) {
	for _, kind := range []int{0, -1, 8, 9, 10, -7, 44, '[', '{', '"', 256 + api.JNull, 1<<32 + api.JTrue, math.MaxInt, math.MinInt} {
		refuseWithin(t, api.Value{Kind: kind})
		refuseWithin(t, api.Value{Kind: kind, Text: "1"})
		refuseWithin(t, api.Value{Kind: kind, List: []api.Value{null()}})
		refuseWithin(t, api.Value{Kind: kind, Keys: []string{"a"}, List: []api.Value{null()}})
	}
	refusePrint(t, api.Value{}, api.ErrForm)
}

func TestTextsOfNumbersThatAreNone(t *testing.T) {
	for _, text := range slices.Concat(noNumbers, []string{
		"", " ", " 1", "1 ", "\n1", "1\n", "1\x00", "\x001", "1 2", "1,2", "[1]", "true", "null", `"1"`, "NaN", "Infinity", "-Infinity", "0x10", "1_000", "1f", "a", "\u0661", "\uff11", "\u22121", "1\u00e9", "\xff", "1\xff", "\ufeff1",
	}) {
		refuseWithin(t, number(text))
	}
}

// All texts of up to five bytes of which a number may be made, with some others.
func TestPrintOfAllNumbers(t *testing.T) {
	for many := range 6 {
		eachOf([]string{"0", "1", "9", "-", "+", ".", "e", "E", " "}, many, func(text string) {
			if soundNumber.MatchString(text) {
				givePrint(t, number(text), text)
			} else {
				refusePrint(t, number(text), api.ErrForm)
			}
		})
	}
}

func TestTextsAndKeysThatAreNoUTF8(t *testing.T) {
	for _, bytes := range noUTF8 {
		for _, text := range []string{bytes, "a" + bytes, bytes + "a", "\u00e9" + bytes + "\u00e9"} {
			refuseWithin(t, said(text))
			refuseWithin(t, object(member{text, null()}))
			refuseWithin(t, object(member{text, null()}, member{"a", null()}, member{"b", null()}))
			refuseWithin(t, object(member{"a", null()}, member{text, null()}, member{"b", null()}))
			refuseWithin(t, object(member{"a", null()}, member{"b", null()}, member{text, null()}))
		}
	}
	// The replacement character is one as others are.
	givePrint(t, said("\ufffd"), "\"\ufffd\"")
	givePrint(t, object(member{"\ufffd", null()}), "{\"\ufffd\":null}")
}

// Of each kind, what is not named and is not empty.
func TestWhatIsNotNamed(t *testing.T) {
	texts := []string{"a", "1", "null", " ", "\x00", "\xff"}
	keys := [][]string{{"a"}, {""}, {"a", "b"}, {"\xff"}}
	lists := [][]api.Value{{null()}, {{}}, {null(), null()}, {list()}}
	for _, v := range []api.Value{null(), {Kind: api.JFalse}, {Kind: api.JTrue}, list(), object(), list(null()), object(member{"a", null()})} {
		for _, text := range texts {
			with := v
			with.Text = text
			refuseWithin(t, with)
		}
	}
	for _, v := range []api.Value{null(), {Kind: api.JFalse}, {Kind: api.JTrue}, number("1"), said("a"), said("")} {
		for _, some := range keys {
			with := v
			with.Keys = some
			refuseWithin(t, with)
		}
		for _, some := range lists {
			with := v
			with.List = some
			refuseWithin(t, with)
		}
		with := v
		with.Keys, with.List = []string{"a"}, []api.Value{null()}
		refuseWithin(t, with)
	}
	for _, some := range keys {
		refuseWithin(t, api.Value{Kind: api.JList, Keys: some})
		refuseWithin(t, api.Value{Kind: api.JList, Keys: some, List: []api.Value{null()}})
		refuseWithin(t, api.Value{Kind: api.JList, Keys: some, List: []api.Value{null(), null()}})
	}
}

func TestKeysAndListThatAreNotAsMany(t *testing.T) {
	keys, values := []string{"a", "b", "c", "d"}, []api.Value{null(), number("1"), said("x"), list()}
	for i := range len(keys) + 1 {
		for j := range len(values) + 1 {
			v := api.Value{Kind: api.JObject, Keys: keys[:i], List: values[:j]}
			if i != j {
				refuseWithin(t, v)
				continue
			}
			givePrint(t, v, []string{"{}", `{"a":null}`, `{"a":null,"b":1}`, `{"a":null,"b":1,"c":"x"}`, `{"a":null,"b":1,"c":"x","d":[]}`}[i])
		}
	}
}

// Deep

func TestPrintOfDeepValues(t *testing.T) {
	one, other := strings.Repeat("[", nest), strings.Repeat("]", nest)
	givePrint(t, nested(api.JList, nest), one+other)
	givePrint(t, nested(api.JObject, nest), strings.Repeat(`{"":`, nest-1)+"{}"+strings.Repeat("}", nest-1))
	for _, leaf := range []api.Value{null(), {Kind: api.JFalse}, {Kind: api.JTrue}, number("1"), said("a")} {
		for many := range nest + 1 {
			giveBack(t, wrapped(leaf, many))
		}
		for many := nest + 1; many < nest+6; many++ {
			refusePrint(t, wrapped(leaf, many), api.ErrForm)
		}
	}
	for _, leaf := range []api.Value{list(), object(), list(null()), object(member{"a", null()}), list(null(), said("")), {Kind: api.JList, List: []api.Value{}}, {Kind: api.JObject, Keys: []string{}, List: []api.Value{}}} {
		for many := range nest {
			giveBack(t, wrapped(leaf, many))
		}
		for many := nest; many < nest+6; many++ {
			refusePrint(t, wrapped(leaf, many), api.ErrForm)
		}
	}
	for _, kind := range []int{api.JList, api.JObject} {
		for _, many := range []int{nest + 1, nest + 2, 2 * nest, 10000} {
			refusePrint(t, nested(kind, many), api.ErrForm)
			refusePrint(t, list(null(), nested(kind, many-1), null()), api.ErrForm)
			refusePrint(t, object(member{"a", null()}, member{"b", nested(kind, many-1)}), api.ErrForm)
		}
	}
}

// nested answers empty lists or objects, one in the other, so many.
func nested(kind, many int) api.Value {
	v := api.Value{Kind: kind}
	for range many - 1 {
		if kind == api.JList {
			v = list(v)
		} else {
			v = object(member{"", v})
		}
	}
	return v
}

// How deep a value is hangs on its deepest part, wherever it stands, and not on how many there are.
func TestPrintOfTheDeepestPart(t *testing.T) {
	shallow, deep, deeper := nested(api.JList, 2), nested(api.JList, nest-1), nested(api.JList, nest)
	for place := range 5 {
		parts := slices.Repeat([]api.Value{shallow}, 5)
		parts[place] = deep
		giveBack(t, list(parts...))
		parts[place] = deeper
		refusePrint(t, list(parts...), api.ErrForm)
	}
	giveBack(t, list(slices.Repeat([]api.Value{deep}, 500)...))
}

// A value that has itself within it has no end, and is answered.
func TestPrintOfValuesWithinThemselves(t *testing.T) {
	for _, kind := range []int{api.JList, api.JObject} {
		for _, parts := range []int{1, 2, 5} {
			v := api.Value{Kind: kind, List: make([]api.Value, parts)}
			if kind == api.JObject {
				v.Keys = make([]string, parts)
			}
			for i := range v.List {
				v.List[i] = null()
			}
			v.List[parts-1] = v
			refusePrint(t, v, api.ErrForm)
			for i := range v.List {
				v.List[i] = v
			}
			refusePrint(t, v, api.ErrForm)
			refusePrint(t, list(null(), v), api.ErrForm)
		}
	}
}

// MaxText

// filled answers a list of a value and a string, in either order, that is so many bytes long, if v has so many.
func filled(v api.Value, size, bytes int, first bool) api.Value {
	pad := said(strings.Repeat("p", bytes-size-len(`[,""]`)))
	if first {
		return list(v, pad)
	}
	return list(pad, v)
}

// With each of these behind as much that all of it has MaxText bytes, and one byte more, and some more.
func TestPrintAsLongAsMayBe(t *testing.T) {
	for text, v := range map[string]api.Value{
		"null": null(), "false": {Kind: api.JFalse}, "true": {Kind: api.JTrue}, "1": number("1"), "-12.50e+3": number("-12.50e+3"),
		`""`: said(""), `"a"`: said("a"), "\"\u00e9\"": said("\u00e9"), "\"\u5730\"": said("\u5730"), "\"\U0001f600\"": said("\U0001f600"),
		`"\n"`: said("\n"), `"\u0001"`: said("\x01"), `"\"\\"`: said(`"\`), `"\u001f\u0000"`: said("\x1f\x00"),
		"[]": list(), "{}": object(), "[[]]": list(list()), "[1]": list(number("1")), "[1,2]": list(number("1"), number("2")), `["a","b"]`: list(said("a"), said("b")),
		`{"a":1}`: object(member{"a", number("1")}), `{"\u0001":{}}`: object(member{"\x01", object()}), `{"a":"","b":null}`: object(member{"a", said("")}, member{"b", null()}),
	} {
		givePrint(t, v, text)
		for _, first := range []bool{true, false} {
			for _, less := range []int{0, 1, 2, 7} {
				giveBack(t, filled(v, len(text), most-less, first))
			}
			for more := 1; more <= len(text)+3; more++ {
				refusePrint(t, filled(v, len(text), most+more, first), api.ErrLarge)
			}
			refusePrint(t, filled(v, len(text), 2*most, first), api.ErrLarge)
		}
	}
}

func TestPrintOfOneLongText(t *testing.T) {
	for c, size := range map[string]int{"a": 1, "\u00e9": 2, "\u5730": 3, "\U0001f600": 4, `"`: 2, `\`: 2, "\n": 2, "\x00": 6, "/": 1, "\x7f": 1} {
		many := (most - 2) / size
		fill := strings.Repeat("p", (most-2)%size)
		giveBack(t, said(strings.Repeat(c, many)+fill))
		giveBack(t, said(fill+strings.Repeat(c, many)))
		refusePrint(t, said(strings.Repeat(c, many)+fill+"p"), api.ErrLarge)
		refusePrint(t, said(fill+"p"+strings.Repeat(c, many)), api.ErrLarge)
		refusePrint(t, said(strings.Repeat(c, most)), api.ErrLarge)
		refusePrint(t, said(strings.Repeat(c, 10*most)), api.ErrLarge)
		many = (most - len(`{"":[]}`)) / size
		fill = strings.Repeat("p", (most-len(`{"":[]}`))%size)
		giveBack(t, object(member{strings.Repeat(c, many) + fill, list()}))
		refusePrint(t, object(member{strings.Repeat(c, many) + fill + "p", list()}), api.ErrLarge)
		refusePrint(t, object(member{strings.Repeat(c, most), list()}), api.ErrLarge)
	}
	giveBack(t, number(strings.Repeat("7", most)))
	refusePrint(t, number(strings.Repeat("7", most+1)), api.ErrLarge)
	refusePrint(t, number(strings.Repeat("7", 100*most)), api.ErrLarge)
}

// Signs alone are as many as may be, and one more.
func TestPrintOfManyParts(t *testing.T) {
	ones := slices.Repeat([]api.Value{number("1")}, most)
	giveBack(t, list(append(slices.Clone(ones[:most/2-2]), number("12"))...)) // [1, .. 12]
	refusePrint(t, list(append(slices.Clone(ones[:most/2-2]), number("123"))...), api.ErrLarge)
	refusePrint(t, list(ones[:most/2]...), api.ErrLarge)
	refusePrint(t, list(ones...), api.ErrLarge)
	giveBack(t, list(slices.Repeat([]api.Value{list()}, (most-1)/3)...))
	refusePrint(t, list(slices.Repeat([]api.Value{list()}, (most-1)/3+1)...), api.ErrLarge)
	refusePrint(t, list(slices.Repeat([]api.Value{object()}, (most-1)/3+1)...), api.ErrLarge)
	nameless := api.Value{Kind: api.JObject, Keys: make([]string, most), List: ones}
	refusePrint(t, nameless, api.ErrLarge)
	nameless.Keys, nameless.List = nameless.Keys[:(most-1)/5], nameless.List[:(most-1)/5] // "":1,
	giveBack(t, nameless)
	nameless = api.Value{Kind: api.JObject, Keys: make([]string, (most-1)/5+1), List: ones[:(most-1)/5+1]}
	refusePrint(t, nameless, api.ErrLarge)
}

// What stands in many places counts in each: here a million.
func TestPrintOfOnePartInManyPlaces(t *testing.T) {
	v := number("1")
	for range 10 {
		v = list(v, v)
	}
	giveBack(t, v)
	for range 10 {
		v = list(v, v)
	}
	refusePrint(t, v, api.ErrLarge)
	v.List = append(v.List, number("01"))
	refusePrint(t, v, api.ErrForm)
}

// What is not sound is told, and not that it is too long: however long what stands ahead is.
func TestPrintOfTooLongAndNotSound(t *testing.T) {
	long := said(strings.Repeat("a", 2*most))
	for _, fault := range []api.Value{{}, number("01"), said("\xff"), {Kind: api.JNull, Text: "a"}, {Kind: api.JObject, Keys: []string{"a"}}, nested(api.JList, nest)} {
		refusePrint(t, list(long, fault), api.ErrForm)
		refusePrint(t, list(fault, long), api.ErrForm)
		refusePrint(t, object(member{long.Text, fault}), api.ErrForm)
		refusePrint(t, list(list(long), list(long, long), list(null(), fault)), api.ErrForm)
	}
	refusePrint(t, said(long.Text+"\xff"), api.ErrForm)
	refusePrint(t, number(strings.Repeat("7", 2*most)+"e"), api.ErrForm)
	refusePrint(t, number("0"+strings.Repeat("7", 2*most)), api.ErrForm)
	refusePrint(t, object(member{long.Text + "\xff", null()}), api.ErrForm)
	refusePrint(t, object(member{"a", long}, member{"\xff", null()}), api.ErrForm)
	refusePrint(t, api.Value{Kind: api.JString, Text: long.Text, Keys: []string{"a"}}, api.ErrForm)
	refusePrint(t, wrapped(long, nest), api.ErrLarge)
	refusePrint(t, wrapped(long, nest+1), api.ErrForm)
}

// Strings

// givePrintSaid holds how a string is printed, as a value and as a key, against how it has to be.
func givePrintSaid(t *testing.T, text, want string) {
	t.Helper()
	givePrint(t, said(text), `"`+want+`"`)
	givePrint(t, list(said(text), null()), `["`+want+`",null]`)
	givePrint(t, object(member{text, said(text)}), `{"`+want+`":"`+want+`"}`)
}

func TestPrintOfBytesBelow32(t *testing.T) {
	for b, want := range []string{
		`\u0000`, `\u0001`, `\u0002`, `\u0003`, `\u0004`, `\u0005`, `\u0006`, `\u0007`, `\b`, `\t`, `\n`, `\u000b`, `\f`, `\r`, `\u000e`, `\u000f`,
		`\u0010`, `\u0011`, `\u0012`, `\u0013`, `\u0014`, `\u0015`, `\u0016`, `\u0017`, `\u0018`, `\u0019`, `\u001a`, `\u001b`, `\u001c`, `\u001d`, `\u001e`, `\u001f`,
	} {
		text := string([]byte{byte(b)})
		givePrintSaid(t, text, want)
		givePrintSaid(t, "a"+text+"b", "a"+want+"b")
		givePrintSaid(t, text+text+"0", want+want+"0")
	}
}

func TestPrintOfSigns(t *testing.T) {
	givePrintSaid(t, `"`, `\"`)
	givePrintSaid(t, `\`, `\\`)
	givePrintSaid(t, `""`, `\"\"`)
	givePrintSaid(t, `\\`, `\\\\`)
	givePrintSaid(t, `\"`, `\\\"`)
	givePrintSaid(t, `a"b\c`, `a\"b\\c`)
	givePrintSaid(t, `\n`, `\\n`)
	givePrintSaid(t, `\u0041`, `\\u0041`)
	givePrintSaid(t, `\ud800`, `\\ud800`)
}

// All else is as it is: each character alone, and many together.
func TestPrintOfAllElse(t *testing.T) {
	for c := rune(32); c <= 0x2100; c++ {
		if c != '"' && c != '\\' {
			givePrint(t, said(string(c)), `"`+string(c)+`"`)
		}
	}
	for first := rune(32); first <= 0x10FFFF; first += 512 {
		var text strings.Builder
		for c := first; c < first+512 && c <= 0x10FFFF; c++ {
			if c != '"' && c != '\\' && (c < 0xD800 || c > 0xDFFF) {
				text.WriteRune(c)
			}
		}
		givePrintSaid(t, text.String(), text.String())
	}
	for _, text := range []string{"/", "</script>", "&<>'`", "\x7f", "\u0080", "\u2028\u2029", "\ufeff", "\uffff", "\U0010ffff", "e\u0301", " ", "{}[]:,"} {
		givePrintSaid(t, text, text)
	}
}
