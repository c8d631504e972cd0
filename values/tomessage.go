package values

import (
	"sluice/describe"
	"sluice/row"
)

type messageWriter struct{ row.Writer }

// Message is the value as bytes, or false if these are too many for a message.
func (v Value) Message() (string, bool) {
	var w messageWriter
	w.value(v)
	return w.Message()
}

func (w *messageWriter) value(v Value) {
	switch v.Of.Kind {
	case describe.Byte, describe.Short, describe.Word:
		w.lowestFirst(v.Number, width(v.Of.Kind))
	case describe.Int:
		w.highestFirst(v.Number, intWidth)
	case describe.Bool:
		w.Put(byte(v.Number))
	case describe.Text, describe.Bytes:
		w.count(len(v.Bytes))
		w.PutAll(v.Bytes)
	case describe.Choice:
		w.Put(byte(v.Number))
		w.several(v.Parts)
	case describe.List, describe.Option: // a count of 0 or 1 is the option's byte
		w.count(len(v.Parts))
		fallthrough
	case describe.Record:
		w.several(v.Parts)
	}
}

func (w *messageWriter) several(values []Value) {
	for _, v := range values {
		w.value(v)
	}
}

func (w *messageWriter) lowestFirst(n int64, bytes int) {
	for i := range bytes {
		w.Put(byte(n >> (8 * i)))
	}
}

func (w *messageWriter) highestFirst(n int64, bytes int) {
	for i := range bytes {
		w.Put(byte(n >> (8 * (bytes - 1 - i))))
	}
}

func (w *messageWriter) count(n int) {
	for n > 127 {
		w.Put(byte(n&127 | 128))
		n >>= 7
	}
	w.Put(byte(n))
}
