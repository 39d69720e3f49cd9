package json

import "merestone/api"

// printer prints at most MaxText bytes: each of its methods answers whether there was room.
type printer struct{ text []byte }

func (p *printer) add(text string) bool {
	if len(text) > api.MaxText-len(p.text) {
		return false
	}
	p.text = append(p.text, text...)
	return true
}

func (p *printer) value(v api.Value) bool {
	switch v.Kind {
	case api.JNull:
		return p.add("null")
	case api.JFalse:
		return p.add("false")
	case api.JTrue:
		return p.add("true")
	case api.JNumber:
		return p.add(v.Text)
	case api.JString:
		return p.quoted(v.Text)
	case api.JList:
		return p.add("[") && p.within(v) && p.add("]")
	}
	return p.add("{") && p.within(v) && p.add("}")
}

// within prints the parts of a list or of an object.
func (p *printer) within(v api.Value) bool {
	for i, part := range v.List {
		if i > 0 && !p.add(",") {
			return false
		}
		if v.Kind == api.JObject && !p.named(v.Keys[i]) {
			return false
		}
		if !p.value(part) {
			return false
		}
	}
	return true
}

func (p *printer) named(key string) bool {
	return p.quoted(key) && p.add(":")
}

func (p *printer) quoted(text string) bool {
	if !p.add(`"`) {
		return false
	}
	for _, c := range text {
		if !p.add(shown(c)) {
			return false
		}
	}
	return p.add(`"`)
}

// shown answers a character as it stands in a string.
func shown(c rune) string {
	switch c {
	case '"':
		return `\"`
	case '\\':
		return `\\`
	case '\b':
		return `\b`
	case '\f':
		return `\f`
	case '\n':
		return `\n`
	case '\r':
		return `\r`
	case '\t':
		return `\t`
	}
	if c < ' ' {
		const small = "0123456789abcdef"
		return `\u00` + string(small[c>>4]) + string(small[c&15])
	}
	return string(c)
}
