package row

import (
	"strings"
	"testing"

	"sluice/api"
)

func TestReaderStaysAheadOfWhatIsRefused(t *testing.T) {
	r := NewReader("ab")
	if r.Accept('b') || r.At() != 0 {
		t.Errorf("a refused byte was stepped over: at %d", r.At())
	}
	if _, ok := r.AcceptIn('b', 'z'); ok || r.At() != 0 {
		t.Errorf("a byte below the range was stepped over: at %d", r.At())
	}
	if b, ok := r.AcceptIn('a', 'a'); b != 'a' || !ok || r.At() != 1 {
		t.Errorf("a byte of the range: %q, %v, at %d", b, ok, r.At())
	}
	if _, ok := r.AcceptIn(0, 'a'); ok || r.At() != 1 {
		t.Errorf("a byte above the range was stepped over: at %d", r.At())
	}
	if b, ok := r.Peek(); b != 'b' || !ok || r.At() != 1 || r.Ended() {
		t.Errorf("Peek: %q, %v, at %d", b, ok, r.At())
	}
	if !r.Accept('b') || !r.Ended() || r.Since(0) != "ab" || r.Since(1) != "b" {
		t.Errorf("the last byte: at %d", r.At())
	}
}

func TestReaderAtTheEnd(t *testing.T) {
	r := NewReader("")
	if _, ok := r.Peek(); ok || !r.Ended() || r.Accept(0) || r.At() != 0 {
		t.Errorf("an empty row has a byte: at %d", r.At())
	}
	if s, ok := r.Take(0); s != "" || !ok {
		t.Errorf("no bytes of an empty row: %q, %v", s, ok)
	}
}

func TestReaderTakes(t *testing.T) {
	r := NewReader("abc")
	if s, ok := r.Take(2); s != "ab" || !ok || r.At() != 2 {
		t.Errorf("two of three: %q, %v, at %d", s, ok, r.At())
	}
	if s, ok := r.Take(2); s != "" || ok || r.At() != 3 {
		t.Errorf("two of one: %q, %v, at %d", s, ok, r.At())
	}
}

func TestWriterKnowsWhereItIs(t *testing.T) {
	var w Writer
	w.Put('a')
	w.PutAll("bc")
	if s, ok := w.Message(); s != "abc" || !ok || w.At() != 3 {
		t.Errorf("%q, %v, at %d", s, ok, w.At())
	}
}

func TestWriterBeyondTheLimit(t *testing.T) {
	var w Writer
	full := strings.Repeat("z", api.MaxMessage)
	w.PutAll(full)
	if s, ok := w.Message(); s != full || !ok {
		t.Errorf("a full message: %d bytes, %v", len(s), ok)
	}
	w.Put('z')
	if s, ok := w.Message(); s != "" || ok || w.At() != api.MaxMessage+1 {
		t.Errorf("one byte more: %d bytes, %v, at %d", len(s), ok, w.At())
	}
}
