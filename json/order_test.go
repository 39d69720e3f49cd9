package json_test

import (
	lib "encoding/json"
	"strings"
	"testing"

	"merestone/api"
	"merestone/json"
)

// holdAgainstTheJudge holds Parse of a text against the reckoning. Behind a failure nothing more is told: there are very many texts.
func holdAgainstTheJudge(t *testing.T, g grammar, text string) {
	t.Helper()
	if t.Failed() {
		return
	}
	want, at, fault := judged(g, text)
	if fault == api.OK {
		give(t, text, want)
	} else {
		refuse(t, text, at, fault)
	}
}

// All texts of up to six tokens: each sign, and each kind of value that is one token.
func TestAllTokens(t *testing.T) {
	g := grammarOf(13)
	for many := range 7 {
		eachOf([]string{"{", "}", "[", "]", ":", ",", `"a"`, "1 "}, many, func(text string) { holdAgainstTheJudge(t, g, text) })
	}
}

// All texts of up to five pieces, some of which are tokens, some blanks, some none; together they make others.
func TestAllPieces(t *testing.T) {
	g := grammarOf(11)
	pieces := []string{"{", "}", "[", "]", ":", ",", `"b"`, "0", "null", "\n", `"`, "-", "e", "A"}
	for many := range 6 {
		eachOf(pieces, many, func(text string) { holdAgainstTheJudge(t, g, text) })
	}
}

// The judge makes just the texts of up to six tokens that the library takes too.
func TestJudge(t *testing.T) {
	g, texts := grammarOf(6), 0
	for many := range 7 {
		eachOf([]string{"{", "}", "[", "]", ":", ",", "s", "v"}, many, func(forms string) {
			text := strings.NewReplacer("s", `"a"`, "v", "1 ").Replace(forms)
			if g.whole[forms] != lib.Valid([]byte(text)) {
				t.Errorf("the judge takes %s: %t", text, g.whole[forms])
			}
			if g.whole[forms] {
				texts++
			}
		})
	}
	if texts != len(g.whole) {
		t.Errorf("the judge has %d texts, and not %d", len(g.whole), texts)
	}
}

func TestTokensThatCannotStand(t *testing.T) {
	for _, c := range []struct {
		text string
		at   int
	}{
		{"]", 0}, {"}", 0}, {":", 0}, {",", 0}, {" ]", 1}, {",1", 0}, {":1", 0},
		{"[,", 1}, {"[:", 1}, {"[}", 1}, {"[,]", 1}, {"[,1]", 1}, {"[ }", 2},
		{"[1}", 2}, {"[1:", 2}, {"[1:2]", 2}, {"[1[", 2}, {"[1{", 2}, {"[1 2", 3}, {`[1"a"`, 2}, {"[1true", 2}, {"[1 null]", 3},
		{"[1,]", 3}, {"[1,}", 3}, {"[1,,", 3}, {"[1,,2]", 3}, {"[1,:", 3}, {"[1, ]", 4},
		{"[[1]2", 4}, {"[[]]]", 4}, {"[]]", 2}, {"[[}", 2},
		{"{]", 1}, {"{,", 1}, {"{:", 1}, {"{{", 1}, {"{[", 1}, {"{1", 1}, {"{true", 1}, {"{null:1}", 1}, {"{,}", 1}, {"{:1}", 1}, {`{,"a":1}`, 1},
		{`{"a"}`, 4}, {`{"a",`, 4}, {`{"a"]`, 4}, {`{"a"1`, 4}, {`{"a""b"`, 4}, {`{"a"{`, 4}, {`{"a"[`, 4}, {`{"a"true`, 4}, {`{"a" 1}`, 5},
		{`{"a":}`, 5}, {`{"a":,`, 5}, {`{"a"::`, 5}, {`{"a":]`, 5}, {`{"a"::1}`, 5}, {`{"a": }`, 6},
		{`{"a":1]`, 6}, {`{"a":1:`, 6}, {`{"a":1"b"`, 6}, {`{"a":1 2`, 7}, {`{"a":1{`, 6}, {`{"a":1[`, 6}, {`{"a":1null`, 6}, {`{"a":1 "b":2}`, 7},
		{`{"a":1,}`, 7}, {`{"a":1,,`, 7}, {`{"a":1,:`, 7}, {`{"a":1,]`, 7}, {`{"a":1,2`, 7}, {`{"a":1,{`, 7}, {`{"a":1,[`, 7}, {`{"a":1,true`, 7}, {`{"a":1, }`, 8},
		{`{"a":1,"b"}`, 10}, {`{"a":1,"b",`, 10}, {`{"a":[1}`, 7}, {`[{"a":1]`, 7}, {`{"a":[1]]`, 8}, {`[{"a":1}}`, 8},
		{`{"a":{"b"}`, 9}, {`{"a":{}:`, 7}, {`{[]:1}`, 1}, {`{{}:1}`, 1}, {`{"a":"b":"c"}`, 8},
	} {
		refuse(t, c.text, c.at, api.ErrText)
		refuse(t, c.text+" ", c.at, api.ErrText)
		refuse(t, "\t"+c.text, c.at+1, api.ErrText)
		refuse(t, c.text+"]}", c.at, api.ErrText)
		refuse(t, c.text+"@", c.at, api.ErrText)
	}
}

func TestEndWhereATokenIsRequired(t *testing.T) {
	for _, text := range []string{
		"", "[", "[1", "[1,", "[[", "[[]", "[[],", "[[1]", `["a"`, `["a",`, "[null", "[{}", "[{},",
		"{", `{"a"`, `{"a":`, `{"a":1`, `{"a":1,`, `{"a":1,"b"`, `{"a":1,"b":`, `{"a":[`, `{"a":[]`, `{"a":{`, `{"a":{}`, `{"a":{},`, `{"a":{"b":[{"c"`,
	} {
		for _, blank := range []string{"", " ", "\n", "\t\r\n  "} {
			refuse(t, text+blank, len(text+blank), api.ErrText)
			refuse(t, blank+text+blank, len(blank+text+blank), api.ErrText)
			refuse(t, "[true,"+text+blank, len("[true,"+text+blank), api.ErrText)
			refuse(t, `{"":`+text+blank, len(`{"":`+text+blank), api.ErrText)
		}
	}
}

// Each text that is a value, cut off anywhere, is at fault at its end, or at the token that is cut.
func TestTextsCutOff(t *testing.T) {
	const text = ` { "ab" : [ 12, {"c":true}, [], {} ,null] ,"d\n\u00e9":{"e":-1.5e3,"f":"gh"} } `
	give(t, text, valueOf(text))
	for i := range strings.LastIndex(text, "}") + 1 {
		forms, places := tokensOf(text[:i])
		at := i
		if strings.HasSuffix(forms, "?") {
			at = places[len(places)-1]
		}
		refuse(t, text[:i], at, api.ErrText)
	}
}

func TestMoreBehindAValue(t *testing.T) {
	for _, value := range []string{"1", `"a"`, "true", "false", "null", "[]", "{}", "[1,2]", `{"a":1}`, "[[]]"} {
		for _, more := range []string{"1", `"a"`, "true", "[", "]", "{", "}", ":", ",", "[]", "{}", ",1", ":1", "x", "@", `"`, "-", "\x00", "\xff", "null null", "]]"} {
			for _, blank := range []string{" ", "\n\n", " \t "} {
				refuse(t, value+blank+more, len(value+blank), api.ErrText)
				refuse(t, blank+value+blank+more+blank, len(blank+value+blank), api.ErrText)
			}
		}
		give(t, value+" \t\r\n", valueOf(value))
	}
	refuse(t, "[]]", 2, api.ErrText)
	refuse(t, "{}}", 2, api.ErrText)
	refuse(t, "[][]", 2, api.ErrText)
	refuse(t, "{}{}", 2, api.ErrText)
	refuse(t, `""""`, 2, api.ErrText)
	refuse(t, "1,2", 1, api.ErrText)
	refuse(t, "1:2", 1, api.ErrText)
	refuse(t, "1]", 1, api.ErrText)
}

// Of several faults the first token's is told, whatever is behind it.
func TestTheFirstFaultIsTold(t *testing.T) {
	faults := []string{"}", ":", ",", "01", "-", "truely", "nul", `"\x"`, `"\ud800"`, "\"\n\"", "\"\xff\"", "@", "\x00", "\xff", "+1", "'", "1.", "E"}
	for _, one := range faults {
		for _, other := range append(faults, "]", `"`, "1", "[]", strings.Repeat("[", nest+1)) {
			refuse(t, one+" "+other, 0, api.ErrText)
			refuse(t, "  "+one+" "+other, 2, api.ErrText)
			refuse(t, "[1,"+one+" ,"+other, 3, api.ErrText)
			refuse(t, `{"a":`+one+" "+other, 5, api.ErrText)
			refuse(t, `{"a":1,`+one+" "+other, 7, api.ErrText)
			refuse(t, "[1 2 "+one+" "+other, 3, api.ErrText)
		}
	}
}

// Lists and objects

func TestListsAndObjects(t *testing.T) {
	yes, no := api.Value{Kind: api.JTrue}, api.Value{Kind: api.JFalse}
	both(t, "[]", list())
	both(t, "{}", object())
	both(t, "[[]]", list(list()))
	both(t, "[{}]", list(object()))
	both(t, `{"":{}}`, object(member{"", object()}))
	both(t, `{"a":[]}`, object(member{"a", list()}))
	both(t, "[1]", list(number("1")))
	both(t, "[1,2,3]", list(number("1"), number("2"), number("3")))
	both(t, "[3,2,1,1,2,3]", list(number("3"), number("2"), number("1"), number("1"), number("2"), number("3")))
	both(t, "[[],[],{},{}]", list(list(), list(), object(), object()))
	both(t, "[[[[]]],[[]]]", list(list(list(list())), list(list())))
	both(t, `[null,false,true,0,"",[],{}]`, list(null(), no, yes, number("0"), said(""), list(), object()))
	both(t, `["a",["b",["c"],"d"],"e"]`, list(said("a"), list(said("b"), list(said("c")), said("d")), said("e")))
	both(t, `{"a":1}`, object(member{"a", number("1")}))
	both(t, `{"b":1,"a":2,"c":3}`, object(member{"b", number("1")}, member{"a", number("2")}, member{"c", number("3")}))
	both(t, `{"a":null,"b":[{"c":{"d":[]}},{}],"e":{"a":"a"}}`, object(member{"a", null()}, member{"b", list(object(member{"c", object(member{"d", list()})}), object())}, member{"e", object(member{"a", said("a")})}))
	both(t, `{"1":1,"true":true,"[]":[],"{}":{}}`, object(member{"1", number("1")}, member{"true", yes}, member{"[]", list()}, member{"{}", object()}))
}

// A key may come twice, and all stay where they are.
func TestKeysThatComeTwice(t *testing.T) {
	both(t, `{"a":1,"a":1}`, object(member{"a", number("1")}, member{"a", number("1")}))
	both(t, `{"a":1,"a":2}`, object(member{"a", number("1")}, member{"a", number("2")}))
	both(t, `{"a":2,"b":3,"a":1,"b":4,"a":2}`, object(member{"a", number("2")}, member{"b", number("3")}, member{"a", number("1")}, member{"b", number("4")}, member{"a", number("2")}))
	both(t, `{"":[],"":{},"":""}`, object(member{"", list()}, member{"", object()}, member{"", said("")}))
	give(t, `{"a":1,"\u0061":2}`, object(member{"a", number("1")}, member{"a", number("2")}))
}

func TestLongListsAndObjects(t *testing.T) {
	for _, many := range []int{10, 1000, 20000} {
		var values []api.Value
		var members []member
		var elements, named []string
		for i := range many {
			text := strings.Repeat("1", 1+i%7)
			values, members = append(values, number(text)), append(members, member{text, number(text)})
			elements, named = append(elements, text), append(named, `"`+text+`":`+text)
		}
		elementsText, namedText := "["+strings.Join(elements, ",")+"]", "{"+strings.Join(named, ",")+"}"
		if len(namedText) > most {
			t.Fatalf("%d bytes", len(namedText))
		}
		both(t, elementsText, list(values...))
		both(t, namedText, object(members...))
	}
}

// MaxNest

// opened answers the signs with which so many lists and objects begin, one within the other, of which the digits of form tell which, and those with which they end; ahead of each stand some others.
func opened(deep int, form string, ahead bool) (first, last string) {
	for i := range deep {
		switch {
		case form[i%len(form)] == '[' && ahead:
			first, last = first+`[0,"]",[[]],`, "]"+last
		case form[i%len(form)] == '[':
			first, last = first+"[", "]"+last
		case ahead:
			first, last = first+`{"a":{"b":{}},"a":`, "}"+last
		default:
			first, last = first+`{"a":`, "}"+last
		}
	}
	return first, last
}

func TestNest(t *testing.T) {
	for _, form := range []string{"[", "{", "[{", "{[", "[[{", "{{[[["} {
		first, last := opened(nest, form, false)
		for _, within := range []string{"1", `"["`, "null"} {
			give(t, first+within+last, valueOf(first+within+last))
		}
		first, last = opened(nest-1, form, false)
		for _, within := range []string{"[]", "{}", "[1,2]", `{"a":1,"b":2}`, "1"} {
			give(t, first+within+last, valueOf(first+within+last))
		}
		// No deeper than MaxNest with what stands ahead, which is two deep.
		first, last = opened(nest-2, form, true)
		for _, within := range []string{"[[]]", `{"a":{}}`, "[{},{}]"} {
			give(t, first+within+last, valueOf(first+within+last))
		}
	}
	both(t, strings.Repeat("[", nest)+strings.Repeat("]", nest), valueOf(strings.Repeat("[", nest)+strings.Repeat("]", nest)))
}

// What was closed counts no more.
func TestNestBesideOneAnother(t *testing.T) {
	deep := strings.Repeat("[", nest-1) + strings.Repeat("]", nest-1)
	text := "[" + strings.Repeat(deep+",", 100) + deep + "]"
	give(t, text, valueOf(text))
	refuse(t, "["+strings.Repeat(deep+",", 100)+"["+deep, 2+100*len(deep+",")+nest-2, api.ErrLarge)
	many := "[" + strings.Repeat("[],{},", 1000) + "1]"
	give(t, many, valueOf(many))
}

func TestTooDeep(t *testing.T) {
	for _, form := range []string{"[", "{", "[{", "{[", "[[{", "{{[[["} {
		for _, ahead := range []bool{false, true} {
			first, last := opened(nest-2, form, ahead)
			inner, innerLast := opened(2, form, false)
			first, last = first+inner, innerLast+last
			for _, blank := range []string{"", " ", "\r\n\t"} {
				// Whatever is behind the sign: its end, nothing, or other faults.
				for _, within := range []string{"[]", "{}", "[1]", `{"a":1}`, "[", "{", "[,", "{]", `["`, "[x", "[[[[[", "[]]]]", "{{{{", "[\x00"} {
					refuse(t, first+blank+within+last, len(first+blank), api.ErrLarge)
					refuse(t, first+blank+within, len(first+blank), api.ErrLarge)
				}
			}
			// A fault ahead of it is told, and one in its place.
			refuse(t, first, len(first), api.ErrText)
			refuse(t, first+"x [", len(first), api.ErrText)
			refuse(t, first+"1 [", len(first)+2, api.ErrText)
			refuse(t, first+"1{", len(first)+1, api.ErrText)
			refuse(t, first+`"a" [`, len(first)+4, api.ErrText)
			refuse(t, "[1 2,"+first+"[", 3, api.ErrText)
		}
	}
	refuse(t, strings.Repeat("[", nest+1), nest, api.ErrLarge)
	refuse(t, strings.Repeat("[", nest)+"]"+strings.Repeat("[", 5), nest+1, api.ErrText)
	refuse(t, strings.Repeat("[", 10*nest)+strings.Repeat("]", 10*nest), nest, api.ErrLarge)
	refuse(t, strings.Repeat(`{"a":`, 10*nest), nest*5, api.ErrLarge)
}

// A [ or { that can't stand where it is, MaxNest deep, is ErrText: that is named first.
func TestTooDeepWhereItCannotStand(t *testing.T) {
	deep := strings.Repeat("[", nest-1)
	refuse(t, deep+"{[", nest, api.ErrText)
	refuse(t, deep+"{{", nest, api.ErrText)
	refuse(t, deep+`{"a"[`, nest+3, api.ErrText)
	refuse(t, deep+`{"a"{`, nest+3, api.ErrText)
	refuse(t, deep+`{"a":[`, nest+4, api.ErrLarge)
	refuse(t, deep+`{"a":{`, nest+4, api.ErrLarge)
	refuse(t, deep+`{"a":1[`, nest+5, api.ErrText)
	refuse(t, deep+`{"a":1,[`, nest+6, api.ErrText)
	refuse(t, deep+`{"a":1,{`, nest+6, api.ErrText)
	refuse(t, deep+"[1[", nest+1, api.ErrText)
	refuse(t, deep+"[1{", nest+1, api.ErrText)
	refuse(t, deep+"[1,[", nest+2, api.ErrLarge)
	refuse(t, deep+"[1,{", nest+2, api.ErrLarge)
	refuse(t, deep+"[][", nest+1, api.ErrText)
	whole := strings.Repeat("[", nest) + strings.Repeat("]", nest)
	refuse(t, whole+"[", 2*nest, api.ErrText)
	refuse(t, whole+"{", 2*nest, api.ErrText)
	if _, _, e := json.Parse([]byte(whole)); e != api.OK {
		t.Errorf("%d", e)
	}
}
