package json_test

import (
	"fmt"
	"slices"
	"testing"

	"merestone/api"
	"merestone/json"
)

// The calls as the chapter lists them: this does not compile if one is another.
var (
	_ func([]byte) (api.Value, int, api.Errno) = json.Parse
	_ func(api.Value) ([]byte, api.Errno)      = json.Print
)

const (
	most = api.MaxText
	nest = api.MaxNest
)

type member struct {
	key   string
	value api.Value
}

func null() api.Value {
	return api.Value{Kind: api.JNull}
}

func number(text string) api.Value {
	return api.Value{Kind: api.JNumber, Text: text}
}

func said(text string) api.Value {
	return api.Value{Kind: api.JString, Text: text}
}

func list(values ...api.Value) api.Value {
	return api.Value{Kind: api.JList, List: values}
}

func object(members ...member) api.Value {
	v := api.Value{Kind: api.JObject}
	for _, m := range members {
		v.Keys, v.List = append(v.Keys, m.key), append(v.List, m.value)
	}
	return v
}

// same answers whether two values are the same in all fields; a nil list is an empty one.
func same(a, b api.Value) bool {
	return a.Kind == b.Kind && a.Text == b.Text && slices.Equal(a.Keys, b.Keys) && slices.EqualFunc(a.List, b.List, same)
}

// copied answers the same value in other memory.
func copied(v api.Value) api.Value {
	v.Keys, v.List = slices.Clone(v.Keys), slices.Clone(v.List)
	for i := range v.List {
		v.List[i] = copied(v.List[i])
	}
	return v
}

// brief is something to be shown, cut where it is long.
func brief(what any) string {
	text := fmt.Sprintf("%+v", what)
	if bytes, is := what.(string); is {
		text = fmt.Sprintf("%q", bytes)
	}
	if len(text) > 160 {
		return text[:120] + " .. " + text[len(text)-30:]
	}
	return text
}

// give holds Parse of a text against the value that it has to tell.
func give(t *testing.T, text string, want api.Value) {
	t.Helper()
	v, at, e := json.Parse([]byte(text))
	if !same(v, want) || at != 0 || e != api.OK {
		t.Errorf("Parse(%s): %s at %d, %d, not %s", brief(text), brief(v), at, e, brief(want))
	}
}

// refuse asks for an error of Parse, for its place, and for nothing else beside it.
func refuse(t *testing.T, text string, at int, fault api.Errno) {
	t.Helper()
	v, was, e := json.Parse([]byte(text))
	if !same(v, api.Value{}) || was != at || e != fault {
		t.Errorf("Parse(%s): %s at %d, %d, not at %d, %d", brief(text), brief(v), was, e, at, fault)
	}
}

func givePrint(t *testing.T, v api.Value, want string) {
	t.Helper()
	b, e := json.Print(v)
	if string(b) != want || e != api.OK {
		t.Errorf("Print(%s): %s, %d, not %s", brief(v), brief(string(b)), e, brief(want))
	}
}

func refusePrint(t *testing.T, v api.Value, fault api.Errno) {
	t.Helper()
	b, e := json.Print(v)
	if len(b) != 0 || e != fault {
		t.Errorf("Print(%s): %s, %d, not %d", brief(v), brief(string(b)), e, fault)
	}
}

// both asks for the value of a text, and for that text of the value.
func both(t *testing.T, text string, v api.Value) {
	t.Helper()
	give(t, text, v)
	givePrint(t, v, text)
}
