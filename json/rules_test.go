package json_test

import (
	"bytes"
	"slices"
	"strings"
	"sync"
	"testing"

	"merestone/api"
	"merestone/json"
)

const several = `[ "one" , [1,2,3] , {"a":1,"b":[4,5,6],"c":{"d":"two","e":null}} , [[],{},"three"] , 1.5 , true ]`

// What is handed in stays as it is, its spare room too, whether it is a value or not.
func TestTextsStayAsTheyAre(t *testing.T) {
	for _, text := range []string{
		"", several, `"a\u0041\ud83d\ude00\n"`, "[1,]", "01", `"\ud800"`, "\"\xff\"", strings.Repeat("[", nest+1), `{"a":1,"a":2}`, "  ", strings.Repeat(" ", most+1), `"abc`, "nul",
	} {
		for _, spare := range []string{"", "]", `"]}`, "x\x00,1,2,3]"} {
			room := []byte(text + spare)
			json.Parse(room[:len(text)])
			if string(room) != text+spare {
				t.Errorf("Parse(%s) with %s to spare made %s of it", brief(text), brief(spare), brief(string(room)))
			}
		}
	}
}

// What stands in the spare room is no part of the text.
func TestSpareRoomIsNotRead(t *testing.T) {
	for _, c := range []struct {
		whole  string
		length int
	}{{"12", 1}, {"[1]", 2}, {`"ab"`, 3}, {"true", 3}, {`"\u0041"`, 6}, {"1 2", 1}, {"1.5", 1}, {"\"\u00e9\"", 2}, {"[] ]", 2}} {
		short := strings.Clone(c.whole[:c.length])
		v, at, e := json.Parse([]byte(c.whole)[:c.length])
		want, wantAt, wantE := json.Parse([]byte(short))
		if !same(v, want) || at != wantAt || e != wantE {
			t.Errorf("Parse(%s) with %s behind it: %s at %d, %d", short, c.whole[c.length:], brief(v), at, e)
		}
	}
}

// The text may be written over behind the call: nothing of it is in the value.
func TestValuesAreNotTheText(t *testing.T) {
	for _, text := range []string{several, `"abc"`, "1234", `{"key":"text"}`, `["a\nb"]`} {
		b := []byte(text)
		v, _, _ := json.Parse(b)
		for i := range b {
			b[i] = '#'
		}
		if !same(v, valueOf(text)) {
			t.Errorf("the value of %s is %s behind a change of the text", text, brief(v))
		}
	}
}

// spoil writes over a list and over its spare room.
func spoil(v api.Value) {
	for i := range v.Keys[:cap(v.Keys)] {
		v.Keys[:cap(v.Keys)][i] = "spoilt"
	}
	for i := range v.List[:cap(v.List)] {
		v.List[:cap(v.List)][i] = api.Value{Kind: -1, Text: "spoilt"}
	}
}

// parts answers a value and all that are within it.
func parts(v api.Value) []api.Value {
	all := []api.Value{v}
	for _, part := range v.List {
		all = append(all, parts(part)...)
	}
	return all
}

// Each list of an answer is written over alone, its spare room too: it is neither in another answer nor another list of its own.
func TestValuesAreNewMemory(t *testing.T) {
	for _, text := range []string{several, `[[1,2,3],[4,5],{"a":1,"b":2,"c":3},{"d":[4]},[6],[],{},[7,8,9,10,11]]`, `{"a":[1,[2],3],"b":{"c":{}},"d":5}`} {
		want := valueOf(text)
		for which := range parts(want) {
			v, _, _ := json.Parse([]byte(text))
			other, _, _ := json.Parse([]byte(text))
			all := parts(v)
			spoil(all[which])
			for i, part := range all {
				if i != which && !sameOutside(part, parts(want)[i]) {
					t.Errorf("%s: part %d is spoilt with part %d: %s", text, i, which, brief(part))
				}
			}
			if !same(other, want) {
				t.Errorf("%s: another answer is spoilt with part %d: %s", text, which, brief(other))
			}
		}
	}
}

// sameOutside leaves out what is within the parts.
func sameOutside(a, b api.Value) bool {
	return a.Kind == b.Kind && a.Text == b.Text && slices.Equal(a.Keys, b.Keys) && slices.EqualFunc(a.List, b.List, func(one, other api.Value) bool {
		return one.Kind == other.Kind && one.Text == other.Text
	})
}

// What Print is handed stays as it is, in all of its lists and their spare room, whether it is sound or not.
func TestValuesStayAsTheyAre(t *testing.T) {
	for _, v := range []api.Value{
		valueOf(several), list(number("01"), said("a")), list(said("\xff")), object(member{"\xff", null()}), nested(api.JList, nest+1),
		list(said(strings.Repeat("a", most)), null()), {Kind: api.JNull, Keys: []string{"a"}, List: []api.Value{null()}}, {Kind: api.JObject, Keys: []string{"a", "b"}, List: []api.Value{said("\n")}},
	} {
		v = roomy(v)
		before := everything(v)
		json.Print(v)
		if !same(everything(v), before) {
			t.Errorf("Print made %s of %s", brief(everything(v)), brief(before))
		}
	}
}

// roomy answers the same value with something in the spare room of all its lists.
func roomy(v api.Value) api.Value {
	keys, values := []string{}, []api.Value{}
	keys = append(append(keys, v.Keys...), "spare", "\xff")
	for _, part := range v.List {
		values = append(values, roomy(part))
	}
	values = append(values, number("77"), api.Value{Kind: -9})
	v.Keys, v.List = keys[:len(v.Keys)], values[:len(v.List)]
	return v
}

// everything answers a copy of a value with all that is in the spare room of its lists.
func everything(v api.Value) api.Value {
	v = api.Value{Kind: v.Kind, Text: v.Text, Keys: slices.Clone(v.Keys[:cap(v.Keys)]), List: slices.Clone(v.List[:cap(v.List)])}
	for i := range v.List {
		v.List[i] = everything(v.List[i])
	}
	return v
}

// Two texts that are printed share nothing, and the value can be changed behind the call.
func TestTextsAreNewMemory(t *testing.T) {
	for _, text := range []string{"null", "true", "12345", `"abc"`, "[]", "{}", `["a",1,{"b":"\u0001"}]`} {
		v := valueOf(text)
		one, _ := json.Print(v)
		other, _ := json.Print(v)
		room := one[:cap(one)]
		for i := range room {
			room[i] = '#'
		}
		if string(other) != text {
			t.Errorf("Print answers memory that another answer has: %s", other)
		}
		if again, _ := json.Print(v); string(again) != text {
			t.Errorf("Print answers memory that it keeps: %s", again)
		}
		spoil(v)
		if string(other) != text {
			t.Errorf("Print answers memory that the value has: %s", other)
		}
	}
}

// The same calls have the same answers, whatever was asked in between.
func TestNothingIsKept(t *testing.T) {
	for range 3 {
		both(t, `[1,"aA"]`, list(number("1"), said("aA")))
		refuse(t, "[1,]", 3, api.ErrText)
		give(t, "1", number("1"))
		refuse(t, strings.Repeat("[", nest+1), nest, api.ErrLarge)
		give(t, strings.Repeat("[", nest)+strings.Repeat("]", nest), nested(api.JList, nest))
		refuse(t, "", 0, api.ErrText)
		refusePrint(t, number("01"), api.ErrForm)
		refuse(t, strings.Repeat(" ", most+1), 0, api.ErrLarge)
		refusePrint(t, said(strings.Repeat("a", most)), api.ErrLarge)
		givePrint(t, said("a"), `"a"`)
		refuse(t, `"`, 0, api.ErrText)
		give(t, `""`, said(""))
	}
}

// Several ask at one time.
func TestManyAtOneTime(t *testing.T) {
	want := valueOf(several)
	printed, _ := json.Print(want)
	var group sync.WaitGroup
	for range 8 {
		group.Go(func() {
			for range 200 {
				v, at, e := json.Parse([]byte(several))
				b, fault := json.Print(want)
				_, wrong, _ := json.Parse([]byte("[1 2]"))
				if !same(v, want) || at != 0 || e != api.OK || !bytes.Equal(b, printed) || fault != api.OK || wrong != 3 {
					t.Error("what several ask at one time is another")
					return
				}
			}
		})
	}
	group.Wait()
}
