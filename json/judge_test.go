package json_test

import (
	lib "encoding/json"
	"regexp"
	"slices"
	"strings"

	"merestone/api"
)

// What stands here reckons the chapter's words another way: tokens by regular expressions, what can stand where by making all texts of few tokens, values by the library's own reader, UTF-8 by the table of RFC 3629.

var (
	blankForm  = regexp.MustCompile(`^[ \t\n\r]*`)
	signForm   = regexp.MustCompile(`^[{}\[\]:,]`)
	stringForm = regexp.MustCompile(`(?s)^"(?:[^"\\]|\\.)*"`)
	wordForm   = regexp.MustCompile(`^[a-z]+`)
	runForm    = regexp.MustCompile(`^[-0-9+.eE]+`)

	soundWord   = regexp.MustCompile(`^(?:true|false|null)$`)
	soundNumber = regexp.MustCompile(`^-?(?:0|[1-9][0-9]*)(?:\.[0-9]+)?(?:[eE][-+]?[0-9]+)?$`)
	soundString = regexp.MustCompile(`^"(?:[^"\\\x00-\x1f]|\\["\\/bfnrt]|` +
		`\\u(?:[0-9a-cA-CefEF][0-9a-fA-F]{3}|[dD][0-7][0-9a-fA-F]{2})|` +
		`\\u[dD][89abAB][0-9a-fA-F]{2}\\u[dD][c-fC-F][0-9a-fA-F]{2})*"$`)
)

// utf8Forms is the table of RFC 3629, section 4: from which byte to which one the first and the second are, and how many others follow.
var utf8Forms = []struct{ low, high, nextLow, nextHigh, more byte }{
	{0xC2, 0xDF, 0x80, 0xBF, 0},
	{0xE0, 0xE0, 0xA0, 0xBF, 1},
	{0xE1, 0xEC, 0x80, 0xBF, 1},
	{0xED, 0xED, 0x80, 0x9F, 1},
	{0xEE, 0xEF, 0x80, 0xBF, 1},
	{0xF0, 0xF0, 0x90, 0xBF, 2},
	{0xF1, 0xF3, 0x80, 0xBF, 2},
	{0xF4, 0xF4, 0x80, 0x8F, 2},
}

// isUTF8 goes through the table.
func isUTF8(text string) bool {
	for text != "" {
		if text[0] < 0x80 {
			text = text[1:]
			continue
		}
		length := 0
		for _, form := range utf8Forms {
			if form.low <= text[0] && text[0] <= form.high && len(text) > 1 && form.nextLow <= text[1] && text[1] <= form.nextHigh {
				length = 2 + int(form.more)
			}
		}
		if length == 0 || length > len(text) {
			return false
		}
		for _, b := range []byte(text[2:length]) {
			if b < 0x80 || b > 0xBF {
				return false
			}
		}
		text = text[length:]
	}
	return true
}

// grammar has all texts of up to so many tokens: s is a string, v another value without a sign.
type grammar struct {
	whole map[string]bool // the texts
	ahead map[string]bool // with what they begin
}

// grammarOf makes the texts out of shorter ones.
func grammarOf(tokens int) grammar {
	values, elements, members := make([][]string, tokens+1), make([][]string, tokens+1), make([][]string, tokens+1)
	for n := 1; n <= tokens; n++ {
		switch n {
		case 1:
			values[n] = []string{"s", "v"}
		case 2:
			values[n] = []string{"[]", "{}"}
		default:
			values[n] = append(around("[", elements[n-2], "]"), around("{", members[n-2], "}")...)
		}
		elements[n] = slices.Clone(values[n])
		if n > 2 {
			members[n] = around("s:", values[n-2], "")
		}
		for one := 1; one < n-1; one++ {
			for _, v := range values[one] {
				elements[n] = append(elements[n], around(v+",", elements[n-1-one], "")...)
				if n-one-3 > 0 {
					members[n] = append(members[n], around("s:"+v+",", members[n-one-3], "")...)
				}
			}
		}
	}
	g := grammar{whole: map[string]bool{}, ahead: map[string]bool{}}
	for _, texts := range values {
		for _, text := range texts {
			g.whole[text] = true
			for i := range len(text) + 1 {
				g.ahead[text[:i]] = true
			}
		}
	}
	return g
}

func around(first string, texts []string, last string) []string {
	var made []string
	for _, text := range texts {
		made = append(made, first+text+last)
	}
	return made
}

// fault answers which token of those is at fault, -1 for none, or how many there are, if another one is required.
func (g grammar) fault(tokens string) int {
	for i := range tokens {
		if !g.ahead[tokens[:i+1]] {
			return i
		}
	}
	if g.whole[tokens] {
		return -1
	}
	return len(tokens)
}

// tokensOf cuts a text into tokens: each one's form (a sign, s, v, or ? for none), and where they begin. Behind one that is none nothing more is looked at.
func tokensOf(text string) (forms string, places []int) {
	at := 0
	for {
		at += len(blankForm.FindString(text[at:]))
		if at == len(text) {
			return forms, append(places, at)
		}
		places = append(places, at)
		form, length := tokenOf(text[at:])
		forms += form
		if form == "?" {
			return forms, places
		}
		at += length
	}
}

func tokenOf(text string) (string, int) {
	if sign := signForm.FindString(text); sign != "" {
		return sign, 1
	}
	if token := stringForm.FindString(text); isUTF8(token) && soundString.MatchString(token) {
		return "s", len(token)
	}
	for _, is := range []struct{ run, sound *regexp.Regexp }{{wordForm, soundWord}, {runForm, soundNumber}} {
		if token := is.run.FindString(text); token != "" && is.sound.MatchString(token) {
			return "v", len(token)
		}
	}
	return "?", 0
}

// judged answers what Parse has to, of a text of no more tokens than g has, and of fewer lists in one another than MaxNest.
func judged(g grammar, text string) (api.Value, int, api.Errno) {
	forms, places := tokensOf(text)
	if at := g.fault(forms); at >= 0 {
		return api.Value{}, places[at], api.ErrText
	}
	return valueOf(text), 0, api.OK
}

// valueOf answers the value of a text that is one.
func valueOf(text string) api.Value {
	reader := lib.NewDecoder(strings.NewReader(text))
	reader.UseNumber()
	return readValue(reader)
}

func readValue(reader *lib.Decoder) api.Value {
	token, err := reader.Token()
	if err != nil {
		panic(err)
	}
	switch token := token.(type) {
	case nil:
		return null()
	case bool:
		return api.Value{Kind: map[bool]int{false: api.JFalse, true: api.JTrue}[token]}
	case lib.Number:
		return number(string(token))
	case string:
		return said(token)
	}
	v := api.Value{Kind: map[any]int{lib.Delim('['): api.JList, lib.Delim('{'): api.JObject}[token]}
	for reader.More() {
		if v.Kind == api.JObject {
			v.Keys = append(v.Keys, readValue(reader).Text)
		}
		v.List = append(v.List, readValue(reader))
	}
	reader.Token()
	return v
}

// eachOf goes through all texts of so many pieces.
func eachOf(pieces []string, many int, look func(string)) {
	if many == 0 {
		look("")
		return
	}
	eachOf(pieces, many-1, func(text string) {
		for _, piece := range pieces {
			look(text + piece)
		}
	})
}
