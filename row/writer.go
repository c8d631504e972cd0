package row

import "sluice/api"

// Writer writes a message. Bytes beyond a message's limit are counted but not
// kept: whoever writes need not ask about the limit at each byte.
type Writer struct {
	Cursor
	kept [api.MaxMessage]byte
}

// Put writes one byte.
func (w *Writer) Put(b byte) {
	if w.At() < len(w.kept) {
		w.kept[w.At()] = b
	}
	w.Step(1)
}

// PutAll writes bytes one behind the other.
func (w *Writer) PutAll(bytes string) {
	for i := range len(bytes) {
		w.Put(bytes[i])
	}
}

// Message is all that was written, or false if that is too long for one.
func (w *Writer) Message() (string, bool) {
	if w.At() > len(w.kept) {
		return "", false
	}
	return string(w.kept[:w.At()]), true
}
