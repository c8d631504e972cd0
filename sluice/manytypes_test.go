package sluice

import (
	"math/rand/v2"
	"strconv"
	"strings"
	"testing"

	"sluice/api"
)

// made is a value, as text and as bytes, with all that is in it: the text of each
// part by its path, the numbers by their paths with a * for each list element.
type made struct {
	text, data string
	parts      map[string]string
	numbers    map[string][]int64
}

func newMade(text, data string) made {
	return made{text, data, map[string]string{"": text}, map[string][]int64{}}
}

func madeNumber(n int64, data string) made {
	v := newMade(strconv.FormatInt(n, 10), data)
	v.numbers[""] = []int64{n}
	return v
}

func longer(step, path string) string {
	if path == "" {
		return step
	}
	return step + "/" + path
}

// hold takes in what is in a part to which a step leads.
func (v made) hold(step, anyStep string, part made) {
	for path, text := range part.parts {
		v.parts[longer(step, path)] = text
	}
	for path, numbers := range part.numbers {
		to := longer(anyStep, path)
		v.numbers[to] = append(v.numbers[to], numbers...)
	}
}

// madeType is a type's text and what makes values of it.
type madeType struct {
	text  string
	value func() made
}

type maker struct{ *rand.Rand }

// newMaker makes the same at every run.
func newMaker(seed uint64) maker { return maker{rand.New(rand.NewPCG(seed, 2))} }

func (m maker) description() (string, madeType) {
	for {
		of := m.anyType(1 + m.IntN(4))
		if desc := "m=" + of.text; len(desc) <= api.MaxText {
			return desc, of
		}
	}
}

func (m maker) anyType(depth int) madeType {
	n := m.IntN(11)
	if depth == 1 {
		n = m.IntN(7)
	}
	switch n {
	case 0, 1, 2:
		return m.unsigned([]string{"byte", "short", "word"}[n], 8<<n)
	case 3:
		return madeType{"int", m.signed}
	case 4:
		return madeType{"bool", func() made {
			k := m.IntN(2)
			return newMade([]string{"no", "yes"}[k], []string{"\x00", "\x01"}[k])
		}}
	case 5:
		return madeType{"text", m.quoted}
	case 6:
		return madeType{"bytes", m.digits}
	case 7:
		return m.list(m.anyType(depth - 1))
	case 8:
		return m.option(m.anyType(depth - 1))
	case 9:
		return m.record(depth)
	}
	return m.choice(depth)
}

func (m maker) unsigned(word string, bits int) madeType {
	return madeType{word, func() made {
		n := m.Uint64() >> (64 - bits) >> m.IntN(bits)
		data := ""
		for i := 0; i < bits; i += 8 {
			data += string([]byte{byte(n >> i)})
		}
		return madeNumber(int64(n), data)
	}}
}

func (m maker) signed() made {
	n := int64(m.Uint64()) >> m.IntN(64)
	data := ""
	for i := 56; i >= 0; i -= 8 {
		data += string([]byte{byte(n >> i)})
	}
	return madeNumber(n, data)
}

func countBytes(n int) string {
	if n < 128 {
		return string([]byte{byte(n)})
	}
	return string([]byte{byte(128 + n%128), byte(n / 128)})
}

func (m maker) size() int { return []int{0, 1, 2, 3, 5, 130}[m.IntN(6)] }

func (m maker) quoted() made {
	n, data := m.size(), ""
	for range n {
		data += string(rune(32 + m.IntN(95)))
	}
	return newMade(`"`+strings.NewReplacer(`"`, `\"`, `\`, `\\`).Replace(data)+`"`, countBytes(n)+data)
}

func (m maker) digits() made {
	n, text, data := m.size(), "x", ""
	for range n {
		b := m.IntN(256)
		text += strconv.FormatInt(int64(256+b), 16)[1:]
		data += string([]byte{byte(b)})
	}
	return newMade(text, countBytes(n)+data)
}

// row is the texts, in a row, and the bytes of some values.
func row(parts []made) (string, string) {
	var texts []string
	all := ""
	for _, part := range parts {
		texts, all = append(texts, part.text), all+part.data
	}
	return strings.Join(texts, ","), all
}

func (m maker) list(of madeType) madeType {
	return madeType{"[" + of.text + "]", func() made {
		var elements []made
		for range m.IntN(4) {
			elements = append(elements, of.value())
		}
		texts, data := row(elements)
		v := newMade("["+texts+"]", countBytes(len(elements))+data)
		for i, element := range elements {
			v.hold(strconv.Itoa(i), "*", element)
		}
		return v
	}}
}

func (m maker) option(of madeType) madeType {
	return madeType{"?" + of.text, func() made {
		if m.IntN(3) == 0 {
			return newMade("-", "\x00")
		}
		inner := of.value()
		v := newMade("+"+inner.text, "\x01"+inner.data)
		v.hold("+", "+", inner)
		return v
	}}
}

func (m maker) parts(depth int) (names []string, types []madeType, texts []string) {
	names = strings.Split("a ab abc b ba x", " ")
	m.Shuffle(len(names), func(i, k int) { names[i], names[k] = names[k], names[i] })
	names = names[:1+m.IntN(3)]
	for _, name := range names {
		of := m.anyType(depth - 1)
		types, texts = append(types, of), append(texts, name+":"+of.text)
	}
	return names, types, texts
}

func (m maker) record(depth int) madeType {
	names, types, typeTexts := m.parts(depth)
	return madeType{"{" + strings.Join(typeTexts, ",") + "}", func() made {
		var fields []made
		for _, of := range types {
			fields = append(fields, of.value())
		}
		texts, data := row(fields)
		v := newMade("{"+texts+"}", data)
		for i, field := range fields {
			v.hold(names[i], names[i], field)
		}
		return v
	}}
}

func (m maker) choice(depth int) madeType {
	names, types, texts := m.parts(depth)
	return madeType{"<" + strings.Join(texts, "|") + ">", func() made {
		k := m.IntN(len(types))
		inner := types[k].value()
		v := newMade(names[k]+":"+inner.text, string([]byte{byte(k)})+inner.data)
		v.hold(names[k], names[k], inner)
		return v
	}}
}

// Many types and values, the same at every run, told as the document's table
// has them: there and back, and cut off.
func TestP4P5ManyTypes(t *testing.T) {
	m, looked := newMaker(1), 0
	for range 3000 {
		desc, of := m.description()
		v := of.value()
		text, data := v.text, v.data
		if len(data) > api.MaxMessage {
			wantError(t, Encode, desc, text, api.ErrLong, 0)
			continue
		}
		looked++
		wantOK(t, Encode, desc, text, data)
		wantOK(t, Decode, desc, data, text)
		at := m.IntN(len(data))
		wantError(t, Decode, desc, data[:at], api.ErrData, at)
		wantNotSooner(t, Decode, desc, data, at, api.ErrData)
		wantNotSooner(t, Encode, desc, text, m.IntN(len(text)), api.ErrValue)
	}
	if looked < 1000 {
		t.Errorf("only %d values were looked at", looked)
	}
}

// wantNotSooner puts another byte at a place: what stands ahead of it stays
// right, and what stands behind it tells nothing of what is ahead.
func wantNotSooner(t *testing.T, do converter, desc, from string, place int, errno api.Errno) {
	t.Helper()
	for _, other := range []string{"\x00", "\x02", "\x80", "0", "9", "a", "}", ",", "\"", "\xff"} {
		changed := from[:place] + other + from[place+1:]
		_, e, at := do(desc, changed)
		if e == api.OK {
			continue
		}
		if e != errno || at < place {
			t.Errorf("%q, %q: %d, %d, but up to %d all is right", desc, changed, e, at, place)
		}
		if at < len(changed) {
			wantError(t, do, desc, changed[:at+1], errno, at)
		}
		_, e, to := do(desc, changed[:at])
		if e != api.OK && (e != errno || to != at) {
			t.Errorf("%q, %q: %d, %d, but it is only begun", desc, changed[:at], e, to)
		}
	}
}
