package json_test

import (
	"strings"
	"testing"

	"merestone/api"
	"merestone/json"
)

func TestExampleOfTheChapter(t *testing.T) {
	give(t, `[1, "a\u0041"]`, list(number("1"), said("aA")))
	refuse(t, `[1,]`, 3, api.ErrText)
	refuse(t, `01`, 0, api.ErrText)
	refuse(t, `"\ud800"`, 0, api.ErrText)
	refuse(t, `[1 2]`, 3, api.ErrText)
	refuse(t, ``, 0, api.ErrText)
	refuse(t, `truely`, 0, api.ErrText)
}

func TestParseOfNothing(t *testing.T) {
	for _, b := range [][]byte{nil, {}, make([]byte, 0, 9)} {
		if v, at, e := json.Parse(b); !same(v, api.Value{}) || at != 0 || e != api.ErrText {
			t.Errorf("%s at %d, %d", brief(v), at, e)
		}
	}
}

// MaxText

func TestParseAsLongAsMayBe(t *testing.T) {
	letters := strings.Repeat("a", most-2)
	give(t, `"`+letters+`"`, said(letters))
	figures := strings.Repeat("7", most)
	give(t, figures, number(figures))
	give(t, strings.Repeat(" ", most-1)+"1", number("1"))
	give(t, "1"+strings.Repeat("\n", most-1), number("1"))
	ones := api.Value{Kind: api.JList, List: make([]api.Value, most/2-1)}
	for i := range ones.List {
		ones.List[i] = number("1")
	}
	give(t, " ["+strings.Repeat("1,", most/2-2)+"1]", ones)
}

// Each of these has a fault at its last byte, or behind it.
func TestParseAsLongAsMayBeAndAtFault(t *testing.T) {
	blanks := strings.Repeat(" ", most-1)
	refuse(t, blanks+" ", most, api.ErrText)
	refuse(t, blanks+"x", most-1, api.ErrText)
	refuse(t, "["+blanks, most, api.ErrText)
	refuse(t, "1"+blanks[1:]+"1", most-1, api.ErrText)
	refuse(t, strings.Repeat("7", most-1)+"-", 0, api.ErrText)
	refuse(t, `"`+strings.Repeat("a", most-1), 0, api.ErrText)
	refuse(t, strings.Repeat("[", most), nest, api.ErrLarge)
}

// Too long is told at 0, whatever else is at fault, and where.
func TestParseOfTooLong(t *testing.T) {
	for _, more := range []int{1, 2, 1000, most} {
		refuse(t, `"`+strings.Repeat("a", most-2+more)+`"`, 0, api.ErrLarge)
		refuse(t, strings.Repeat("7", most+more), 0, api.ErrLarge)
		refuse(t, strings.Repeat(" ", most+more-1)+"1", 0, api.ErrLarge)
		refuse(t, "1"+strings.Repeat(" ", most+more-1), 0, api.ErrLarge)
		refuse(t, strings.Repeat(" ", most+more), 0, api.ErrLarge)
		refuse(t, strings.Repeat("x", most+more), 0, api.ErrLarge)
		refuse(t, "[1,]"+strings.Repeat(" ", most+more-4), 0, api.ErrLarge)
		refuse(t, strings.Repeat("[", most+more), 0, api.ErrLarge)
		refuse(t, strings.Repeat("\x00", most+more), 0, api.ErrLarge)
	}
}

// Blanks

// Each of the four stands ahead of all tokens, between them and behind them, alone and in numbers.
func TestBlanks(t *testing.T) {
	tokens := []string{"{", `"a"`, ":", "[", "1", ",", "true", ",", `" b "`, "]", ",", `"c"`, ":", "null", "}"}
	want := object(member{"a", list(number("1"), api.Value{Kind: api.JTrue}, said(" b "))}, member{"c", null()})
	give(t, strings.Join(tokens, ""), want)
	for _, blank := range []string{" ", "\t", "\n", "\r", "\r\n", " \t\n\r", "    ", "\n\n\n", "\r\t \n \n\t\r"} {
		give(t, blank+strings.Join(tokens, blank)+blank, want)
		for i := range len(tokens) + 1 {
			give(t, strings.Join(tokens[:i], "")+blank+strings.Join(tokens[i:], ""), want)
		}
	}
}

// No other byte is a blank, nor a longer blank of another kind, nor a remark.
func TestNoBlanks(t *testing.T) {
	others := []string{
		"\u0085", "\u00a0", "\u1680", "\u2003", "\u2028", "\u2029", "\u3000", "\ufeff", "\u200b",
		"\\n", "\\u0020", "//\n", "/**/", "#\n", "&", "'",
	}
	for b := range 256 {
		if strings.IndexByte(" \t\n\r", byte(b)) < 0 {
			others = append(others, string([]byte{byte(b)}))
		}
	}
	for _, other := range others {
		if strings.Contains(`{}[]:,"0123456789.eE+-`, other[:1]) || "a" <= other[:1] && other[:1] <= "z" {
			continue // what begins a token
		}
		for _, blank := range []string{"", " ", "\n \t"} {
			refuse(t, other, 0, api.ErrText)
			refuse(t, blank+other, len(blank), api.ErrText)
			refuse(t, blank+other+blank+"1", len(blank), api.ErrText)
			refuse(t, "["+blank+other+"1]", 1+len(blank), api.ErrText)
			refuse(t, "[1"+blank+other+",2]", 2+len(blank), api.ErrText)
			refuse(t, "[1,"+blank+other+"2]", 3+len(blank), api.ErrText)
			refuse(t, `{"a"`+blank+other+":1}", 4+len(blank), api.ErrText)
			refuse(t, "[]"+blank+other, 2+len(blank), api.ErrText)
			refuse(t, "true"+blank+other, 4+len(blank), api.ErrText)
			refuse(t, "17"+blank+other, 2+len(blank), api.ErrText)
		}
	}
}

// Blanks within a token part it in two.
func TestBlanksWithinTokens(t *testing.T) {
	for _, blank := range []string{" ", "\t", "\n", "\r"} {
		refuse(t, "tr"+blank+"ue", 0, api.ErrText)
		refuse(t, "true"+blank+"ly", 5, api.ErrText)
		refuse(t, "-"+blank+"1", 0, api.ErrText)
		refuse(t, "1"+blank+"2", 2, api.ErrText)
		refuse(t, "1"+blank+".5", 2, api.ErrText)
		refuse(t, "1."+blank+"5", 0, api.ErrText)
	}
	give(t, `" "`, said(" "))
	for _, blank := range []string{"\t", "\n", "\r"} {
		refuse(t, `"`+blank+`"`, 0, api.ErrText)
	}
}

// Words

func TestWords(t *testing.T) {
	for word, kind := range map[string]int{"null": api.JNull, "false": api.JFalse, "true": api.JTrue} {
		v := api.Value{Kind: kind}
		give(t, word, v)
		give(t, " "+word+"\n", v)
		give(t, "["+word+"]", list(v))
		give(t, "["+word+","+word+"]", list(v, v))
		give(t, `{"`+word+`":`+word+"}", object(member{word, v}))
		for i := range word {
			refuse(t, word[:i], 0, api.ErrText)
			if i > 0 {
				refuse(t, "["+word[:i]+"]", 1, api.ErrText)
				refuse(t, word[i:], 0, api.ErrText)
				refuse(t, word[:i]+" "+word[i:], 0, api.ErrText)
			}
			refuse(t, word[:i]+strings.ToUpper(word[i:]), 0, api.ErrText)
			refuse(t, word[:i]+strings.ToUpper(word[i:i+1])+word[i+1:], 0, api.ErrText)
			refuse(t, word[:i]+"x"+word[i+1:], 0, api.ErrText)
			refuse(t, word[:i]+word[i:i+1]+word[i:], 0, api.ErrText)
		}
		refuse(t, strings.ToUpper(word), 0, api.ErrText)
		refuse(t, `{`+word+`:1}`, 1, api.ErrText)
	}
	for _, word := range []string{"truetrue", "nil", "none", "undefined", "yes", "no", "on", "t", "n", "f", "e", "a", "z", "nan", "inf", "infinity", "nulll", "xtrue", "ttrue", "trues", "falsey"} {
		refuse(t, word, 0, api.ErrText)
		refuse(t, "[1,"+word+"]", 3, api.ErrText)
		refuse(t, `{"a": `+word+"}", 6, api.ErrText)
	}
}

// A word goes as far as there are small letters, and no further.
func TestWordsEndBehindTheirLetters(t *testing.T) {
	for first := byte('a'); first <= 'z'; first++ {
		refuse(t, "true"+string(first), 0, api.ErrText)
		refuse(t, string(first)+"true", 0, api.ErrText)
		refuse(t, "["+string(first)+"]", 1, api.ErrText)
	}
	for _, behind := range []string{"1", "E", "A", "Z", "-", ".", "+5", "_", "`", "{", "[", "\"", "\"x\"", ":", "\u00e9", "\u0131", "\uff41", "\x7f", "T", "True", "$"} {
		refuse(t, "true"+behind, 4, api.ErrText)
		refuse(t, "[null"+behind+"]", 5, api.ErrText)
	}
	give(t, "[true,false]", list(api.Value{Kind: api.JTrue}, api.Value{Kind: api.JFalse}))
	give(t, `{"a":null}`, object(member{"a", null()}))
}

// Numbers

func TestNumbers(t *testing.T) {
	for _, text := range []string{
		"0", "-0", "1", "-1", "9", "10", "-10", "100", "1234567890", "9876543210", "-9223372036854775808", "18446744073709551616",
		"123456789012345678901234567890123456789012345678901234567890",
		"0.0", "-0.0", "0.5", "1.5", "-1.25", "0.00", "10.010", "3.14159265358979323846264338327950288419716939937510", "1.0000",
		"0e0", "0E0", "1e5", "1E5", "1e+5", "1E+5", "1e-5", "1E-5", "-1e5", "-0e-0", "1e05", "1e00", "1e-007", "12e34", "1e999999999", "1E400",
		"0.5e5", "1.5E+10", "-1.5e-10", "0.0e00", "-0.0E-00", "1234567890.0987654321e+1234567890",
	} {
		give(t, text, number(text))
		give(t, "\n"+text+" ", number(text))
		give(t, "["+text+"]", list(number(text)))
		give(t, "[ "+text+","+text+" ]", list(number(text), number(text)))
		give(t, `{"`+text+`":`+text+"}", object(member{text, number(text)}))
		refuse(t, "{"+text+":1}", 1, api.ErrText)
	}
}

var noNumbers = []string{
	"00", "01", "-00", "-01", "007", "00.5", "-00.5", "01e5", "0123456789",
	"+", "+0", "+1", "+1.5", "++1", "-+1", "+-1", "--1", "--", "-", "1-", "1+", "1-2", "1+2", "-1-", "1--2",
	".", ".5", "-.5", "+.5", "5.", "-5.", "0.", "-0.", "1..5", "1.5.", "1.5.5", "..", "1.-5", "1.+5", "-.",
	"1e", "1E", "-1e", "1e+", "1e-", "1E+", "1E-", "1.e5", "1.E5", "1.5e", "1e5.", "1e5.5", "1e.5", "1e5e5", "1ee5", "1eE5", "1e5E",
	"1e++5", "1e--5", "1e+-5", "1e-+5", "1e5-", "1e5+", "1e5-5", "-e5", "+e5", ".e5", "-e", "E", "E5", "E+5", "0e", "0E+", "00e5", "-.e", "+E-",
}

func TestNoNumbers(t *testing.T) {
	for _, text := range noNumbers {
		refuse(t, text, 0, api.ErrText)
		refuse(t, " "+text+" ", 1, api.ErrText)
		refuse(t, "["+text+"]", 1, api.ErrText)
		refuse(t, "[1, "+text+",", 4, api.ErrText)
		refuse(t, `{"a":`+text+"}", 5, api.ErrText)
	}
}

// A number goes as far as there are digits, signs, points and e's, and no further.
func TestNumbersEndBehindTheirBytes(t *testing.T) {
	for _, number := range []string{"1", "-0", "1.5", "1e5", "-2E-3"} {
		for _, behind := range []string{"a", "d", "f", "x1", "true", "l", "A", "D", "F", "L", "X", "_", "_0", "/", "'", "\u00b2", "\u0660", "\uff11", "\x00", "n", "%", "\"", "\"\"", "{", "[", ":", "$"} {
			refuse(t, number+behind, len(number), api.ErrText)
			refuse(t, "["+number+behind+"]", 1+len(number), api.ErrText)
		}
		for _, behind := range []string{"-", "+", ".", "e", "E", "-1", "+1", ".e", "e.5", "E+-5", "e5e", ".5.", "e5.5"} {
			refuse(t, number+behind, 0, api.ErrText)
			refuse(t, "["+number+behind+"]", 1, api.ErrText)
		}
	}
	// The e of a word is the number's.
	refuse(t, "1else", 0, api.ErrText)
	refuse(t, "1false", 1, api.ErrText)
	refuse(t, "0x10", 1, api.ErrText)
	refuse(t, "1e5true", 3, api.ErrText)
	refuse(t, "1Infinity", 1, api.ErrText)
	refuse(t, "-Infinity", 0, api.ErrText)
	refuse(t, "-infinity", 0, api.ErrText)
	refuse(t, "-true", 0, api.ErrText)
	refuse(t, "Infinity", 0, api.ErrText)
	refuse(t, "NaN", 0, api.ErrText)
	give(t, "[1,-1]", list(number("1"), number("-1")))
	give(t, `[1,"-1"]`, list(number("1"), said("-1")))
	refuse(t, "[1-1]", 1, api.ErrText)
}

// All texts of up to six bytes of which a number may be made.
func TestAllNumbers(t *testing.T) {
	for many := 1; many <= 6; many++ {
		eachOf([]string{"0", "1", "9", "-", "+", ".", "e", "E"}, many, func(text string) {
			if soundNumber.MatchString(text) {
				give(t, text, number(text))
			} else {
				refuse(t, text, 0, api.ErrText)
			}
		})
	}
}

// Each byte in each place of a number.
func TestNumbersWithEachByte(t *testing.T) {
	g := grammarOf(3)
	for _, text := range []string{"-10.52e+37", "0", "12"} {
		for i := range text {
			for b := range 256 {
				holdAgainstTheJudge(t, g, text[:i]+string([]byte{byte(b)})+text[i+1:])
				holdAgainstTheJudge(t, g, text[:i]+string([]byte{byte(b)})+text[i:])
			}
		}
	}
}
