package sluice

import (
	"testing"

	"sluice/api"
)

// known is a ring as the document tells of it: all frames that ever were, on a
// line without an end, of which each so many granules are the ring's once more.
type known struct {
	granules int
	end      int // behind the newest frame
	frames   []knownFrame
	shut     bool
}

type knownFrame struct {
	begin          int // that of its gap, if it has one
	data           string
	held, released bool
}

func (k *known) put(data string) api.Errno {
	size := 1
	for 8*size < len(data)+2 {
		size++
	}
	if k.shut {
		return api.ErrShut
	}
	if size > k.granules-size {
		return api.ErrLarge
	}
	begin := k.end
	for begin%k.granules+size > k.granules {
		begin++
	}
	if k.room().Taken+begin+size-k.end > k.granules {
		return api.ErrFull
	}
	k.frames = append(k.frames, knownFrame{begin: k.end, data: data})
	k.end = begin + size
	return api.OK
}

func (k *known) take() (int, api.Errno) {
	for i := range k.frames {
		if f := &k.frames[i]; !f.held && !f.released {
			f.held = true
			return i + 1, api.OK
		}
	}
	if k.shut {
		return 0, api.ErrShut
	}
	return 0, api.ErrEmpty
}

func (k *known) release(frame int) api.Errno {
	if frame < 1 || frame > len(k.frames) || !k.frames[frame-1].held {
		return api.ErrFrame
	}
	k.frames[frame-1].held, k.frames[frame-1].released = false, true
	return api.OK
}

func (k *known) room() api.Room {
	room := api.Room{Shut: k.shut}
	for _, f := range k.frames {
		if f.released {
			continue
		}
		if room.Taken == 0 {
			room.Taken = k.end - f.begin
		}
		if f.held {
			room.Held++
		} else {
			room.Waiting++
		}
	}
	return room
}

// oldestHeld and newestHeld are 0 if none is.
func (k *known) oldestHeld() int {
	for i, f := range k.frames {
		if f.held {
			return i + 1
		}
	}
	return 0
}

func (k *known) newestHeld() int {
	newest := 0
	for i, f := range k.frames {
		if f.held {
			newest = i + 1
		}
	}
	return newest
}

// both is a ring and what is known of it.
type both struct {
	*Ring
	known known
}

func newBoth(t *testing.T, granules int) *both {
	t.Helper()
	return &both{newRing(t, granules), known{granules: granules}}
}

// marks is a frame's bytes: of no two frames that lie near each other the same ones.
func (b *both) marks(bytes int) string {
	data := make([]byte, bytes)
	for i := range data {
		data[i] = byte(37*(len(b.known.frames)+1) + i)
	}
	return string(data)
}

// The deeds tell whether the ring did what it was told.

func (b *both) putBoth(t *testing.T, bytes int) bool {
	t.Helper()
	data := b.marks(bytes)
	want := b.known.put(data)
	wantPut(t, b.Ring, data, want)
	return want == api.OK
}

func (b *both) takeBoth(t *testing.T) bool {
	t.Helper()
	frame, want := b.known.take()
	wantTake(t, b.Ring, frame, want)
	return want == api.OK
}

func (b *both) releaseBoth(t *testing.T, frame int) bool {
	t.Helper()
	want := b.known.release(frame)
	wantRelease(t, b.Ring, frame, want)
	return want == api.OK
}

func (b *both) shutBoth(t *testing.T) bool {
	t.Helper()
	want := api.OK
	if b.known.shut {
		want = api.ErrShut
	}
	if e := b.Shut(); e != want {
		t.Errorf("Shut() = %d, want %d", e, want)
	}
	b.known.shut = true
	return want == api.OK
}

// wantAlike looks at the newest frames: the others are released by then.
func (b *both) wantAlike(t *testing.T) {
	t.Helper()
	if room, want := b.Room(), b.known.room(); room != want {
		t.Errorf("Room() = %+v, want %+v", room, want)
	}
	for i := max(0, len(b.known.frames)-70); i < len(b.known.frames); i++ {
		if f := b.known.frames[i]; f.held {
			wantFrame(t, b.Ring, i+1, f.data)
		} else {
			wantView(t, b.Ring, i+1, 0, 0, "", api.ErrFrame)
		}
	}
}

type deed func(b *both, t *testing.T) bool

func deeds() []deed {
	return []deed{
		func(b *both, t *testing.T) bool { return b.putBoth(t, 6) },
		func(b *both, t *testing.T) bool { return b.putBoth(t, 7) },
		func(b *both, t *testing.T) bool { return b.putBoth(t, 20) },
		func(b *both, t *testing.T) bool { return b.takeBoth(t) },
		func(b *both, t *testing.T) bool { return b.releaseBoth(t, b.known.oldestHeld()) },
		func(b *both, t *testing.T) bool { return b.releaseBoth(t, b.known.newestHeld()) },
		func(b *both, t *testing.T) bool { return b.shutBoth(t) },
	}
}

// tryAll does each deed behind some others, and goes on behind those that were
// not refused. It tells how many rows of deeds there were.
func tryAll(t *testing.T, granules int, ahead []deed, more int) int {
	if more == 0 || t.Failed() {
		return 0
	}
	rows := 0
	for _, do := range deeds() {
		b := newBoth(t, granules)
		for _, done := range ahead {
			done(b, t)
		}
		done := do(b, t)
		b.wantAlike(t)
		rows++
		if done {
			rows += tryAll(t, granules, append(ahead[:len(ahead):len(ahead)], do), more-1)
		}
	}
	return rows
}

func TestP8P9AllShortRowsOfDeeds(t *testing.T) {
	rows := 0
	for granules := 2; granules <= 7; granules++ {
		rows += tryAll(t, granules, nil, 7)
	}
	if rows < 10000 {
		t.Errorf("only %d rows of deeds", rows)
	}
}

// Long rows of deeds, in which the ring goes round many times, in turn with
// more that goes in and with more that goes out.
func TestP8P9LongRowsOfDeeds(t *testing.T) {
	m := newMaker(8)
	for range 400 {
		granules := 2 + m.IntN(63)
		b := newBoth(t, granules)
		for i := range 300 {
			switch n := m.IntN(10); {
			case n < 3+i/20%3:
				b.putBoth(t, m.IntN(1+m.IntN(4*granules+2)))
			case n < 7:
				b.takeBoth(t)
			case n < 8:
				b.releaseBoth(t, b.known.oldestHeld())
			case n < 9:
				b.releaseBoth(t, b.known.newestHeld())
			case m.IntN(100) == 0:
				b.shutBoth(t)
			default:
				b.releaseBoth(t, len(b.known.frames)-m.IntN(12))
			}
			b.wantAlike(t)
			if t.Failed() {
				t.Fatalf("a ring of %d granules, deed %d", granules, i)
			}
		}
	}
}
