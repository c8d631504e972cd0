package values

import (
	"sluice/api"
	"sluice/describe"
	"sluice/row"
)

type messageReader struct{ row.Reader }

// FromMessage reads a value's bytes. It refuses them if they are too many for a
// message, or at the first one that is wrong.
func FromMessage(of *describe.Type, data string) (Value, api.Errno, int) {
	if len(data) > api.MaxMessage {
		return Value{}, api.ErrLong, 0
	}
	r := messageReader{row.NewReader(data)}
	v, ok := r.value(of)
	if !ok || !r.Ended() {
		return Value{}, api.ErrData, r.At()
	}
	return v, api.OK, 0
}

func (r *messageReader) value(of *describe.Type) (Value, bool) {
	v, ok := Value{Of: of}, false
	switch of.Kind {
	case describe.Byte, describe.Short, describe.Word:
		v.Number, ok = r.lowestFirst(width(of.Kind))
	case describe.Int:
		v.Number, ok = r.highestFirst(intWidth)
	case describe.Bool:
		v.Number, ok = r.below(2)
	case describe.Text:
		v.Bytes, ok = r.text()
	case describe.Bytes:
		v.Bytes, ok = r.bytes()
	case describe.List:
		v.Parts, ok = r.list(of.Parts[0].Type)
	case describe.Option:
		v.Parts, ok = r.option(of.Parts[0].Type)
	case describe.Record:
		v.Parts, ok = r.record(of.Parts)
	case describe.Choice:
		v.Number, v.Parts, ok = r.choice(of.Parts)
	}
	return v, ok
}

func (r *messageReader) lowestFirst(bytes int) (int64, bool) {
	taken, ok := r.Take(bytes)
	n := int64(0)
	for i := range len(taken) {
		n |= int64(taken[i]) << (8 * i)
	}
	return n, ok
}

func (r *messageReader) highestFirst(bytes int) (int64, bool) {
	taken, ok := r.Take(bytes)
	n := int64(0)
	for i := range len(taken) {
		n = n<<8 | int64(taken[i])
	}
	return n, ok
}

func (r *messageReader) below(limit int) (int64, bool) {
	b, ok := r.AcceptIn(0, byte(limit-1))
	return int64(b), ok
}

// count refuses a byte as soon as the least count that may come of it is too
// great, not only once the count is whole.
func (r *messageReader) count() (int, bool) {
	n := 0
	for shift := 0; ; shift += 7 {
		next, ok := r.Peek()
		if !ok || next == 0 && shift > 0 {
			return 0, false
		}
		goesOn := next > 127
		n |= int(next&127) << shift
		least := n
		if goesOn {
			least += 128 << shift
		}
		if least > api.MaxCount {
			return 0, false
		}
		r.Step(1)
		if !goesOn {
			return n, true
		}
	}
}

func (r *messageReader) bytes() (string, bool) {
	n, ok := r.count()
	if !ok {
		return "", false
	}
	return r.Take(n)
}

func (r *messageReader) text() (string, bool) {
	n, ok := r.count()
	if !ok {
		return "", false
	}
	from := r.At()
	for range n {
		if _, ok := r.AcceptIn(firstVisible, lastVisible); !ok {
			return "", false
		}
	}
	return r.Since(from), true
}

func (r *messageReader) list(of *describe.Type) ([]Value, bool) {
	n, ok := r.count()
	if !ok {
		return nil, false
	}
	return r.several(n, of)
}

func (r *messageReader) option(of *describe.Type) ([]Value, bool) {
	n, ok := r.below(2)
	if !ok {
		return nil, false
	}
	return r.several(int(n), of)
}

func (r *messageReader) several(n int, of *describe.Type) ([]Value, bool) {
	var values []Value
	for range n {
		v, ok := r.value(of)
		if !ok {
			return nil, false
		}
		values = append(values, v)
	}
	return values, true
}

func (r *messageReader) record(parts []describe.Part) ([]Value, bool) {
	var fields []Value
	for _, part := range parts {
		field, ok := r.value(part.Type)
		if !ok {
			return nil, false
		}
		fields = append(fields, field)
	}
	return fields, true
}

func (r *messageReader) choice(parts []describe.Part) (int64, []Value, bool) {
	chosen, ok := r.below(len(parts))
	if !ok {
		return 0, nil, false
	}
	inner, ok := r.value(parts[chosen].Type)
	return chosen, []Value{inner}, ok
}
