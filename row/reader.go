package row

// Reader reads a row. It never steps over a byte that is refused: so, once a
// caller gives up, where the reader stands is the place of the fault.
type Reader struct {
	Cursor
	data string
}

// NewReader reads data from its first byte on.
func NewReader(data string) Reader { return Reader{data: data} }

// Ended tells whether nothing is left.
func (r *Reader) Ended() bool { return r.At() == len(r.data) }

// Peek tells the next byte, if there is one, and does not step over it.
func (r *Reader) Peek() (byte, bool) {
	if r.Ended() {
		return 0, false
	}
	return r.data[r.At()], true
}

// Accept steps over the next byte, if it is this one.
func (r *Reader) Accept(wanted byte) bool {
	_, ok := r.AcceptIn(wanted, wanted)
	return ok
}

// AcceptIn steps over the next byte, if it is one from low to high.
func (r *Reader) AcceptIn(low, high byte) (byte, bool) {
	next, ok := r.Peek()
	if !ok || next < low || next > high {
		return 0, false
	}
	r.Step(1)
	return next, true
}

// Take steps over so many bytes. If there are fewer it goes to the end, which
// is where the row is wrong then.
func (r *Reader) Take(bytes int) (string, bool) {
	from := r.At()
	if left := len(r.data) - from; left < bytes {
		r.Step(left)
		return "", false
	}
	r.Step(bytes)
	return r.Since(from), true
}

// Since tells the bytes from an earlier place up to here.
func (r *Reader) Since(from int) string { return r.data[from:r.At()] }
