package sluice

import (
	"math/rand/v2"
	"strconv"
	"strings"
	"testing"

	"sluice/api"
)

// madeType is a type's text and what makes values of it, as texts and as bytes.
type madeType struct {
	text  string
	value func() (string, string)
}

type maker struct{ *rand.Rand }

func (m maker) anyType(depth int) madeType {
	n := m.IntN(11)
	if depth == 1 {
		n = m.IntN(7)
	}
	switch n {
	case 0, 1, 2:
		return m.unsigned([]string{"byte", "short", "word"}[n], 8<<n)
	case 3:
		return madeType{"int", m.signed}
	case 4:
		return madeType{"bool", func() (string, string) {
			k := m.IntN(2)
			return []string{"no", "yes"}[k], []string{"\x00", "\x01"}[k]
		}}
	case 5:
		return madeType{"text", m.quoted}
	case 6:
		return madeType{"bytes", m.digits}
	case 7:
		return m.list(m.anyType(depth - 1))
	case 8:
		return m.option(m.anyType(depth - 1))
	case 9:
		return m.record(depth)
	}
	return m.choice(depth)
}

func (m maker) unsigned(word string, bits int) madeType {
	return madeType{word, func() (string, string) {
		n := m.Uint64() >> (64 - bits) >> m.IntN(bits)
		data := ""
		for i := 0; i < bits; i += 8 {
			data += string([]byte{byte(n >> i)})
		}
		return strconv.FormatUint(n, 10), data
	}}
}

func (m maker) signed() (string, string) {
	n := int64(m.Uint64()) >> m.IntN(64)
	data := ""
	for i := 56; i >= 0; i -= 8 {
		data += string([]byte{byte(n >> i)})
	}
	return strconv.FormatInt(n, 10), data
}

func countBytes(n int) string {
	if n < 128 {
		return string([]byte{byte(n)})
	}
	return string([]byte{byte(128 + n%128), byte(n / 128)})
}

func (m maker) size() int { return []int{0, 1, 2, 3, 5, 130}[m.IntN(6)] }

func (m maker) quoted() (string, string) {
	n, data := m.size(), ""
	for range n {
		data += string(rune(32 + m.IntN(95)))
	}
	return `"` + strings.NewReplacer(`"`, `\"`, `\`, `\\`).Replace(data) + `"`, countBytes(n) + data
}

func (m maker) digits() (string, string) {
	n, text, data := m.size(), "x", ""
	for range n {
		b := m.IntN(256)
		text += strconv.FormatInt(int64(256+b), 16)[1:]
		data += string([]byte{byte(b)})
	}
	return text, countBytes(n) + data
}

func (m maker) list(of madeType) madeType {
	return madeType{"[" + of.text + "]", func() (string, string) {
		n := m.IntN(4)
		var texts []string
		all := countBytes(n)
		for range n {
			text, data := of.value()
			texts, all = append(texts, text), all+data
		}
		return "[" + strings.Join(texts, ",") + "]", all
	}}
}

func (m maker) option(of madeType) madeType {
	return madeType{"?" + of.text, func() (string, string) {
		if m.IntN(3) == 0 {
			return "-", "\x00"
		}
		text, data := of.value()
		return "+" + text, "\x01" + data
	}}
}

func (m maker) parts(depth int) (names []string, types []madeType, texts []string) {
	names = strings.Split("a ab abc b ba x", " ")[:1+m.IntN(3)]
	for _, name := range names {
		of := m.anyType(depth - 1)
		types, texts = append(types, of), append(texts, name+":"+of.text)
	}
	return names, types, texts
}

func (m maker) record(depth int) madeType {
	_, types, texts := m.parts(depth)
	return madeType{"{" + strings.Join(texts, ",") + "}", func() (string, string) {
		var values []string
		all := ""
		for _, of := range types {
			text, data := of.value()
			values, all = append(values, text), all+data
		}
		return "{" + strings.Join(values, ",") + "}", all
	}}
}

func (m maker) choice(depth int) madeType {
	names, types, texts := m.parts(depth)
	return madeType{"<" + strings.Join(texts, "|") + ">", func() (string, string) {
		k := m.IntN(len(types))
		text, data := types[k].value()
		return names[k] + ":" + text, string([]byte{byte(k)}) + data
	}}
}

// Many types and values, the same at every run, told as the document's table
// has them: there and back, and cut off.
func TestP4P5ManyTypes(t *testing.T) {
	m, looked := maker{rand.New(rand.NewPCG(1, 2))}, 0
	for range 3000 {
		of := m.anyType(1 + m.IntN(4))
		desc := "m=" + of.text
		if len(desc) > api.MaxText {
			continue
		}
		text, data := of.value()
		if len(data) > api.MaxMessage {
			wantError(t, Encode, desc, text, api.ErrLong, 0)
			continue
		}
		looked++
		wantOK(t, Encode, desc, text, data)
		wantOK(t, Decode, desc, data, text)
		at := m.IntN(len(data))
		wantError(t, Decode, desc, data[:at], api.ErrData, at)
		wantNotSooner(t, Decode, desc, data, at, api.ErrData)
		wantNotSooner(t, Encode, desc, text, m.IntN(len(text)), api.ErrValue)
	}
	if looked < 1000 {
		t.Errorf("only %d values were looked at", looked)
	}
}

// wantNotSooner puts another byte at a place: what stands ahead of it stays
// right, and what stands behind it tells nothing of what is ahead.
func wantNotSooner(t *testing.T, do converter, desc, from string, place int, errno api.Errno) {
	t.Helper()
	for _, other := range []string{"\x00", "\x02", "\x80", "0", "9", "a", "}", ",", "\"", "\xff"} {
		changed := from[:place] + other + from[place+1:]
		_, e, at := do(desc, changed)
		if e == api.OK {
			continue
		}
		if e != errno || at < place {
			t.Errorf("%q, %q: %d, %d, but up to %d all is right", desc, changed, e, at, place)
		}
		if at < len(changed) {
			wantError(t, do, desc, changed[:at+1], errno, at)
		}
		_, e, to := do(desc, changed[:at])
		if e != api.OK && (e != errno || to != at) {
			t.Errorf("%q, %q: %d, %d, but it is only begun", desc, changed[:at], e, to)
		}
	}
}
