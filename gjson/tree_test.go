package gjson_test

import (
	"slices"
	"strconv"
	"testing"

	"merestone/api"
	"merestone/json"
)

func null() api.Value { return api.Value{Kind: api.JNull} }

func number(text string) api.Value { return api.Value{Kind: api.JNumber, Text: text} }

func said(text string) api.Value { return api.Value{Kind: api.JString, Text: text} }

func list(values ...api.Value) api.Value { return api.Value{Kind: api.JList, List: values} }

func object() api.Value { return api.Value{Kind: api.JObject} }

// with answers an object with one member more, behind the others.
func with(v api.Value, key string, value api.Value) api.Value {
	v.Keys = append(slices.Clone(v.Keys), key)
	v.List = append(slices.Clone(v.List), value)
	return v
}

// points is a ring as it is written, of numbers: X and Y of one point after the other, the last point told too.
func points(numbers ...int) api.Value {
	v := list()
	for pair := range slices.Chunk(numbers, 2) {
		v.List = append(v.List, list(number(strconv.Itoa(pair[0])), number(strconv.Itoa(pair[1]))))
	}
	return v
}

// treeOf is the text of a plan as a value, to be changed and shown.
func treeOf(p api.Plan) api.Value {
	v, _, e := json.Parse([]byte(textOf(p)))
	if e != api.OK {
		panic("the text of a plan is none")
	}
	return v
}

// node is the part of a tree to which steps lead: an object's member of that name, or a list's item of that number.
func node(v *api.Value, steps ...any) *api.Value {
	for _, step := range steps {
		i, is := step.(int)
		if !is {
			i = slices.Index(v.Keys, step.(string))
		}
		v = &v.List[i]
	}
	return v
}

// deep answers the same value in other memory.
func deep(v api.Value) api.Value {
	v.Keys, v.List = slices.Clone(v.Keys), slices.Clone(v.List)
	for i := range v.List {
		v.List[i] = deep(v.List[i])
	}
	return v
}

// changed is a tree with one part changed.
func changed(v api.Value, change func(part *api.Value), steps ...any) api.Value {
	v = deep(v)
	change(node(&v, steps...))
	return v
}

// replaced is a tree with another value in the place of one part.
func replaced(v, other api.Value, steps ...any) api.Value {
	return changed(v, func(part *api.Value) { *part = other }, steps...)
}

// show is the text of a tree, whose numbers may be anything.
func show(v api.Value) string {
	switch v.Kind {
	case api.JNull:
		return "null"
	case api.JFalse:
		return "false"
	case api.JTrue:
		return "true"
	case api.JNumber:
		return v.Text
	case api.JString:
		return quoted(v.Text)
	}
	text := ""
	for i, part := range v.List {
		if i > 0 {
			text += ","
		}
		if v.Kind == api.JObject {
			text += quoted(v.Keys[i]) + ":"
		}
		text += show(part)
	}
	if v.Kind == api.JObject {
		return "{" + text + "}"
	}
	return "[" + text + "]"
}

func quoted(text string) string {
	b, _ := json.Print(said(text))
	return string(b)
}

// giveTree and refuseTree ask for a tree's text.
func giveTree(t *testing.T, what string, v api.Value, want api.Plan) {
	t.Helper()
	give(t, what, show(v), want)
}

func refuseTree(t *testing.T, what string, v api.Value, fault api.Errno) {
	t.Helper()
	refuse(t, what, show(v), fault)
}

// eachNode goes through all parts of a tree that the whole names, the whole too.
func eachNode(v api.Value, visit func(steps ...any)) {
	var walk func(v api.Value, steps []any)
	walk = func(v api.Value, steps []any) {
		visit(steps...)
		for i, part := range v.List {
			var step any = i
			if v.Kind == api.JObject {
				step = v.Keys[i]
			}
			walk(part, append(slices.Clone(steps), step))
		}
	}
	walk(v, nil)
}
