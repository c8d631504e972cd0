// Package sluice: messages by descriptions, and a ring of bytes for them: see DOC.md.
package sluice

import (
	"errors"

	"sluice/api"
	"sluice/describe"
	"sluice/ring"
	"sluice/tally"
	"sluice/values"
)

func parse(desc string) (*describe.Type, api.Errno, int) {
	of, err := describe.Parse(desc)
	var refusal *describe.Refusal
	if errors.As(err, &refusal) {
		return nil, refusal.Errno, refusal.At
	}
	return of, api.OK, 0
}

// Check tells whether a text is a description (P3).
func Check(desc string) (api.Errno, int) {
	_, errno, at := parse(desc)
	return errno, at
}

// Encode makes the message of a value (P4).
func Encode(desc string, value string) (string, api.Errno, int) {
	of, errno, at := parse(desc)
	if errno != api.OK {
		return "", errno, at
	}
	return encode(of, value)
}

func encode(of *describe.Type, value string) (string, api.Errno, int) {
	v, errno, at := values.FromText(of, value)
	if errno != api.OK {
		return "", errno, at
	}
	message, ok := v.Message()
	if !ok {
		return "", api.ErrLong, 0
	}
	return message, api.OK, 0
}

// Decode tells the value of a message (P5).
func Decode(desc string, data string) (string, api.Errno, int) {
	// The whole value is what the empty path leads to, and that leads somewhere.
	return Get(desc, data, "")
}

// Get tells a part of a message's value (P6).
func Get(desc string, data string, path string) (string, api.Errno, int) {
	of, errno, at := parse(desc)
	if errno != api.OK {
		return "", errno, at
	}
	return get(of, data, path)
}

func get(of *describe.Type, data string, path string) (string, api.Errno, int) {
	v, errno, at := values.FromMessage(of, data)
	if errno != api.OK {
		return "", errno, at
	}
	part, step, ok := v.Part(path)
	if !ok {
		return "", api.ErrPath, step
	}
	return part.Text(), api.OK, 0
}

// Tally adds up the numbers of messages (P7).
func Tally(desc string, messages []string, workers int) ([]api.Sum, int, api.Errno, int) {
	of, errno, at := parse(desc)
	if errno != api.OK {
		return nil, 0, errno, at
	}
	if len(messages) > api.MaxMessages || workers < 1 || workers > api.MaxWorkers {
		return nil, 0, api.ErrConf, 0
	}
	sums, refused := tally.Messages(of, messages, workers)
	return sums, refused, api.OK, 0
}

// Ring is a ring of bytes in which frames wait and are held.
type Ring struct{ frames *ring.Ring }

// NewRing makes an empty ring (P8).
func NewRing(granules int) (*Ring, api.Errno) {
	frames, errno := ring.New(granules)
	if errno != api.OK {
		return nil, errno
	}
	return &Ring{frames}, api.OK
}

// Put puts a frame in (P8).
func (r *Ring) Put(data string) api.Errno { return r.frames.Put(data) }

// Take takes the frame that waits longest, which is held then (P9).
func (r *Ring) Take() (int, api.Errno) { return r.frames.Take() }

// View tells bytes of a frame that is held (P9).
func (r *Ring) View(frame int, from int, to int) (string, api.Errno) {
	return r.frames.View(frame, from, to)
}

// Release lets a frame go (P9).
func (r *Ring) Release(frame int) api.Errno { return r.frames.Release(frame) }

// Shut lets nothing in any more (P8).
func (r *Ring) Shut() api.Errno { return r.frames.Shut() }

// Room tells how the ring is (P9).
func (r *Ring) Room() api.Room { return r.frames.Room() }

// Bus is a ring for messages of one description.
type Bus struct {
	of     *describe.Type
	frames *ring.Ring
}

// NewBus makes one (P10).
func NewBus(desc string, granules int) (*Bus, api.Errno, int) {
	of, errno, at := parse(desc)
	if errno != api.OK {
		return nil, errno, at
	}
	frames, errno := ring.New(granules)
	if errno != api.OK {
		return nil, errno, 0
	}
	return &Bus{of, frames}, api.OK, 0
}

// Publish puts the message of a value in (P10).
func (b *Bus) Publish(value string) (api.Errno, int) {
	message, errno, at := encode(b.of, value)
	if errno != api.OK {
		return errno, at
	}
	return b.frames.Put(message), 0
}

// Raw puts bytes in as they are (P10).
func (b *Bus) Raw(data string) api.Errno { return b.frames.Put(data) }

// Consume takes the message that waits longest (P10).
func (b *Bus) Consume() (int, string, api.Errno) {
	frame, errno := b.frames.Take()
	if errno != api.OK {
		return 0, "", errno
	}
	value, errno, _ := b.Field(frame, "")
	if errno != api.OK {
		// Nobody can do anything with it: held, it would only be in the way.
		b.frames.Release(frame)
		return frame, "", api.ErrData
	}
	return frame, value, api.OK
}

// Field tells a part of a message that is held (P10).
func (b *Bus) Field(frame int, path string) (string, api.Errno, int) {
	data, errno := b.frames.Bytes(frame)
	if errno != api.OK {
		return "", errno, 0
	}
	return get(b.of, data, path)
}

// Release lets a message go (P10).
func (b *Bus) Release(frame int) api.Errno { return b.frames.Release(frame) }

// Shut lets nothing in any more (P10).
func (b *Bus) Shut() api.Errno { return b.frames.Shut() }

// Room tells how the bus's ring is (P10).
func (b *Bus) Room() api.Room { return b.frames.Room() }
