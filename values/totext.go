package values

import (
	"strconv"

	"sluice/describe"
)

const hexDigits = "0123456789abcdef"

// Text is the value as text.
func (v Value) Text() string { return string(v.appendText(nil)) }

func (v Value) appendText(out []byte) []byte {
	switch v.Of.Kind {
	case describe.Byte, describe.Short, describe.Word, describe.Int:
		return strconv.AppendInt(out, v.Number, 10)
	case describe.Bool:
		if v.Number == 0 {
			return append(out, "no"...)
		}
		return append(out, "yes"...)
	case describe.Text:
		return appendQuoted(out, v.Bytes)
	case describe.Bytes:
		return appendHexadecimal(out, v.Bytes)
	case describe.List:
		return appendBetween(out, '[', v.Parts, ']')
	case describe.Option:
		if len(v.Parts) == 0 {
			return append(out, '-')
		}
		return v.Parts[0].appendText(append(out, '+'))
	case describe.Record:
		return appendBetween(out, '{', v.Parts, '}')
	case describe.Choice:
		out = append(out, v.Of.Parts[v.Number].Name...)
		return v.Parts[0].appendText(append(out, ':'))
	}
	return out
}

func appendQuoted(out []byte, text string) []byte {
	out = append(out, '"')
	for i := range len(text) {
		if text[i] == '"' || text[i] == '\\' {
			out = append(out, '\\')
		}
		out = append(out, text[i])
	}
	return append(out, '"')
}

func appendHexadecimal(out []byte, bytes string) []byte {
	out = append(out, 'x')
	for i := range len(bytes) {
		out = append(out, hexDigits[bytes[i]>>4], hexDigits[bytes[i]&15])
	}
	return out
}

func appendBetween(out []byte, begin byte, parts []Value, end byte) []byte {
	out = append(out, begin)
	for i, part := range parts {
		if i > 0 {
			out = append(out, ',')
		}
		out = part.appendText(out)
	}
	return append(out, end)
}
