// Package ring: frames of bytes, one behind the other in a row that goes round.
package ring

import (
	"slices"

	"sluice/api"
)

// Ring is a row of granules. Frames lie in it in the order of their numbers, so
// the number of the first one tells those of all; one that was released stays
// among them for as long as an older one lies ahead of it, as its room does.
type Ring struct {
	row    []byte
	frames []frame // from the oldest one that is not released on
	first  int     // the number of the first of frames, or of the next frame if there are none
	next   int     // the granule behind the newest frame
	shut   bool
}

// New makes an empty ring.
func New(granules int) (*Ring, api.Errno) {
	if granules < api.MinRing || granules > api.MaxRing {
		return nil, api.ErrConf
	}
	return &Ring{row: make([]byte, granules*api.Granule), first: 1}, api.OK
}

func (r *Ring) granules() int { return len(r.row) / api.Granule }

func (r *Ring) taken() int {
	n := 0
	for _, f := range r.frames {
		n += f.takes
	}
	return n
}

// gap is how many granules are left out so that a frame does not go over the end.
func (r *Ring) gap(needed int) int {
	if left := r.granules() - r.next; left < needed {
		return left
	}
	return 0
}

// Put puts a frame in behind all others.
func (r *Ring) Put(data string) api.Errno {
	if r.shut {
		return api.ErrShut
	}
	needed := granulesFor(len(data))
	if 2*needed > r.granules() {
		return api.ErrLarge
	}
	gap := r.gap(needed)
	if gap+needed > r.granules()-r.taken() {
		return api.ErrFull
	}
	// What is taken lies in one piece round the ring, so all that is free lies
	// just behind it.
	at := (r.next + gap) % r.granules()
	r.write(at, data)
	r.frames = append(r.frames, frame{at: at, takes: gap + needed, state: waits})
	r.next = (at + needed) % r.granules()
	return api.OK
}

// Shut lets nothing in any more.
func (r *Ring) Shut() api.Errno {
	if r.shut {
		return api.ErrShut
	}
	r.shut = true
	return api.OK
}

// Take tells the number of the frame that waits longest, which is held then.
func (r *Ring) Take() (int, api.Errno) {
	i := slices.IndexFunc(r.frames, func(f frame) bool { return f.state == waits })
	if i >= 0 {
		r.frames[i].state = held
		return r.first + i, api.OK
	}
	if r.shut {
		return 0, api.ErrShut
	}
	return 0, api.ErrEmpty
}

// heldAt is where among frames the one of a number is, if that is held.
func (r *Ring) heldAt(number int) (int, bool) {
	if number < r.first || number-r.first >= len(r.frames) {
		return 0, false
	}
	i := number - r.first
	return i, r.frames[i].state == held
}

// Bytes tells all bytes of a frame that is held.
func (r *Ring) Bytes(number int) (string, api.Errno) {
	i, ok := r.heldAt(number)
	if !ok {
		return "", api.ErrFrame
	}
	return string(r.bytes(r.frames[i].at)), api.OK
}

// View tells those from a place on, up to ahead of another one.
func (r *Ring) View(number, from, to int) (string, api.Errno) {
	data, errno := r.Bytes(number)
	if errno != api.OK {
		return "", errno
	}
	if from < 0 || from > to || to > len(data) {
		return "", api.ErrConf
	}
	return data[from:to], api.OK
}

// Release lets a frame that is held go.
func (r *Ring) Release(number int) api.Errno {
	i, ok := r.heldAt(number)
	if !ok {
		return api.ErrFrame
	}
	r.frames[i].state = released
	for len(r.frames) > 0 && r.frames[0].state == released {
		r.frames = r.frames[1:]
		r.first++
	}
	return api.OK
}

// Room tells how the ring is.
func (r *Ring) Room() api.Room {
	return api.Room{Taken: r.taken(), Waiting: r.count(waits), Held: r.count(held), Shut: r.shut}
}

func (r *Ring) count(wanted state) int {
	n := 0
	for _, f := range r.frames {
		if f.state == wanted {
			n++
		}
	}
	return n
}
