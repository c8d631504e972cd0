package ring

import "sluice/api"

// head is how many bytes a frame has ahead of its own: in these stands how many
// its own are, the lowest byte first.
const head = 2

type state int

const (
	waits state = iota
	held
	released
)

// frame is what is known of a frame beside the bytes in the row.
type frame struct {
	at    int // its first granule
	takes int // granules, with the gap ahead of it
	state state
}

func granulesFor(bytes int) int { return (head + bytes + api.Granule - 1) / api.Granule }

func (r *Ring) write(at int, data string) {
	room := r.row[at*api.Granule:]
	room[0], room[1] = byte(len(data)), byte(len(data)>>8)
	copy(room[head:], data)
}

// bytes is a piece of the row itself: nobody outside may have it.
func (r *Ring) bytes(at int) []byte {
	room := r.row[at*api.Granule:]
	size := int(room[0]) | int(room[1])<<8
	return room[head : head+size]
}
