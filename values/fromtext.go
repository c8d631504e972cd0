package values

import (
	"math"
	"slices"
	"strings"

	"sluice/api"
	"sluice/describe"
	"sluice/row"
)

type textReader struct{ row.Reader }

// FromText reads a value's text. It refuses that at the first byte that is wrong.
func FromText(of *describe.Type, text string) (Value, api.Errno, int) {
	r := textReader{row.NewReader(text)}
	v, ok := r.value(of)
	if !ok || !r.Ended() {
		return Value{}, api.ErrValue, r.At()
	}
	return v, api.OK, 0
}

func (r *textReader) value(of *describe.Type) (Value, bool) {
	v, ok := Value{Of: of}, false
	switch of.Kind {
	case describe.Byte, describe.Short, describe.Word:
		v.Number, ok = r.unsigned(of.Kind)
	case describe.Int:
		v.Number, ok = r.signed()
	case describe.Bool:
		v.Number, ok = r.oneOf("no", "yes")
	case describe.Text:
		v.Bytes, ok = r.quoted()
	case describe.Bytes:
		v.Bytes, ok = r.hexadecimal()
	case describe.List:
		v.Parts, ok = r.list(of.Parts[0].Type)
	case describe.Option:
		v.Parts, ok = r.option(of.Parts[0].Type)
	case describe.Record:
		v.Parts, ok = r.record(of.Parts)
	case describe.Choice:
		v.Number, v.Parts, ok = r.choice(of.Parts)
	}
	return v, ok
}

func (r *textReader) unsigned(kind describe.Kind) (int64, bool) {
	n, ok := r.digits(greatest(kind))
	return int64(n), ok
}

func (r *textReader) signed() (int64, bool) {
	if !r.Accept('-') {
		n, ok := r.digits(math.MaxInt64)
		return int64(n), ok
	}
	if next, _ := r.Peek(); next == '0' {
		return 0, false
	}
	n, ok := r.digits(-math.MinInt64)
	return -int64(n), ok
}

// digits stops ahead of a digit by which the number gets too great, and behind
// a leading 0: there no caller accepts a digit.
func (r *textReader) digits(most uint64) (uint64, bool) {
	if r.Accept('0') {
		return 0, true
	}
	n, from := uint64(0), r.At()
	for {
		next, _ := r.Peek()
		if next < '0' || next > '9' || n > (most-uint64(next-'0'))/10 {
			return n, r.At() > from
		}
		n = n*10 + uint64(next-'0')
		r.Step(1)
	}
}

// oneOf reads one of some words, none of which begins with another one, and
// goes on for as long as any of them may still come of it.
func (r *textReader) oneOf(words ...string) (int64, bool) {
	from := r.At()
	for {
		if i := slices.Index(words, r.Since(from)); i >= 0 {
			return int64(i), true
		}
		next, ok := r.Peek()
		if !ok || !anyBegins(words, r.Since(from)+string([]byte{next})) {
			return 0, false
		}
		r.Step(1)
	}
}

func anyBegins(words []string, with string) bool {
	return slices.ContainsFunc(words, func(word string) bool { return strings.HasPrefix(word, with) })
}

func (r *textReader) quoted() (string, bool) {
	if !r.Accept('"') {
		return "", false
	}
	var read []byte
	for !r.Accept('"') {
		if len(read) == api.MaxCount {
			return "", false
		}
		next, ok := r.visible()
		if !ok {
			return "", false
		}
		read = append(read, next)
	}
	return string(read), true
}

func (r *textReader) visible() (byte, bool) {
	if !r.Accept('\\') {
		return r.AcceptIn(firstVisible, lastVisible)
	}
	if r.Accept('"') {
		return '"', true
	}
	return '\\', r.Accept('\\')
}

func (r *textReader) hexadecimal() (string, bool) {
	if !r.Accept('x') {
		return "", false
	}
	var read []byte
	for len(read) < api.MaxCount {
		high, ok := r.hexDigit()
		if !ok {
			break
		}
		low, ok := r.hexDigit()
		if !ok {
			return "", false
		}
		read = append(read, high<<4|low)
	}
	return string(read), true
}

func (r *textReader) hexDigit() (byte, bool) {
	if digit, ok := r.AcceptIn('0', '9'); ok {
		return digit - '0', true
	}
	letter, ok := r.AcceptIn('a', 'f')
	return letter - 'a' + 10, ok
}

func (r *textReader) list(of *describe.Type) ([]Value, bool) {
	if !r.Accept('[') {
		return nil, false
	}
	if r.Accept(']') {
		return nil, true
	}
	var elements []Value
	for {
		element, ok := r.value(of)
		if !ok {
			return nil, false
		}
		elements = append(elements, element)
		if r.Accept(']') {
			return elements, true
		}
		if len(elements) == api.MaxCount || !r.Accept(',') {
			return nil, false
		}
	}
}

func (r *textReader) option(of *describe.Type) ([]Value, bool) {
	if r.Accept('-') {
		return nil, true
	}
	if !r.Accept('+') {
		return nil, false
	}
	inner, ok := r.value(of)
	return []Value{inner}, ok
}

func (r *textReader) record(parts []describe.Part) ([]Value, bool) {
	var fields []Value
	ahead := byte('{')
	for _, part := range parts {
		if !r.Accept(ahead) {
			return nil, false
		}
		field, ok := r.value(part.Type)
		if !ok {
			return nil, false
		}
		fields = append(fields, field)
		ahead = ','
	}
	return fields, r.Accept('}')
}

func (r *textReader) choice(parts []describe.Part) (int64, []Value, bool) {
	var names []string
	for _, part := range parts {
		names = append(names, part.Name+":")
	}
	chosen, ok := r.oneOf(names...)
	if !ok {
		return 0, nil, false
	}
	inner, ok := r.value(parts[chosen].Type)
	return chosen, []Value{inner}, ok
}
