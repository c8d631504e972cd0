package sluice

import (
	"maps"
	"slices"
	"strings"
	"testing"

	"sluice/api"
)

// twin is a bus and what is known of it: its ring as the document tells of it,
// and what Encode, Decode and Get make of the frames' bytes.
type twin struct {
	*Bus
	desc  string
	known known
}

func newTwin(t *testing.T, desc string, granules int) *twin {
	t.Helper()
	return &twin{newBus(t, desc, granules), desc, known{granules: granules}}
}

// The deeds tell whether the bus did what it was told.

func (b *twin) publishBoth(t *testing.T, value string) bool {
	t.Helper()
	data, want, at := Encode(b.desc, value)
	if want == api.OK {
		want = b.known.put(data)
	}
	wantPublish(t, b.Bus, value, want, at)
	return want == api.OK
}

func (b *twin) rawBoth(t *testing.T, data string) bool {
	t.Helper()
	want := b.known.put(data)
	wantRaw(t, b.Bus, data, want)
	return want == api.OK
}

func (b *twin) consumeBoth(t *testing.T) bool {
	t.Helper()
	frame, want := b.known.take()
	if want != api.OK {
		wantConsume(t, b.Bus, 0, "", want)
		return false
	}
	value, errno, _ := Decode(b.desc, b.known.frames[frame-1].data)
	if errno == api.OK {
		wantConsume(t, b.Bus, frame, value, api.OK)
		return true
	}
	b.known.release(frame)
	wantConsume(t, b.Bus, frame, "", api.ErrData)
	return true
}

func (b *twin) releaseBoth(t *testing.T, frame int) bool {
	t.Helper()
	want := b.known.release(frame)
	wantBusRelease(t, b.Bus, frame, want)
	return want == api.OK
}

func (b *twin) shutBoth(t *testing.T) bool {
	t.Helper()
	want := api.OK
	if b.known.shut {
		want = api.ErrShut
	}
	wantBusShut(t, b.Bus, want)
	b.known.shut = true
	return want == api.OK
}

// wantAlike looks at the newest frames: the others are released by then.
func (b *twin) wantAlike(t *testing.T, paths ...string) {
	t.Helper()
	wantBusRoom(t, b.Bus, b.known.room())
	for i := max(0, len(b.known.frames)-70); i < len(b.known.frames); i++ {
		for _, path := range paths {
			if f := b.known.frames[i]; f.held {
				value, errno, at := Get(b.desc, f.data, path)
				wantField(t, b.Bus, i+1, path, value, errno, at)
			} else {
				wantField(t, b.Bus, i+1, path, "", api.ErrFrame, 0)
			}
		}
	}
}

type busDeed func(b *twin, t *testing.T) bool

func busDeeds() []busDeed {
	return []busDeed{
		func(b *twin, t *testing.T) bool { return b.publishBoth(t, `"abc"`) },
		func(b *twin, t *testing.T) bool { return b.publishBoth(t, `"abcdefghij"`) },
		func(b *twin, t *testing.T) bool { return b.publishBoth(t, `"abc`) },
		func(b *twin, t *testing.T) bool { return b.rawBoth(t, "\x02ab") },
		func(b *twin, t *testing.T) bool { return b.rawBoth(t, "\x02a") },
		func(b *twin, t *testing.T) bool { return b.consumeBoth(t) },
		func(b *twin, t *testing.T) bool { return b.releaseBoth(t, b.known.oldestHeld()) },
		func(b *twin, t *testing.T) bool { return b.releaseBoth(t, b.known.newestHeld()) },
		func(b *twin, t *testing.T) bool { return b.shutBoth(t) },
	}
}

// tryAllOfBus does each deed behind some others, and goes on behind those that
// were not refused. It tells how many rows of deeds there were.
func tryAllOfBus(t *testing.T, granules int, ahead []busDeed, more int) int {
	if more == 0 || t.Failed() {
		return 0
	}
	rows := 0
	for _, do := range busDeeds() {
		b := newTwin(t, "m=text", granules)
		for _, done := range ahead {
			done(b, t)
		}
		done := do(b, t)
		b.wantAlike(t, "", "0")
		rows++
		if done {
			rows += tryAllOfBus(t, granules, append(ahead[:len(ahead):len(ahead)], do), more-1)
		}
	}
	return rows
}

func TestP10AllShortRowsOfDeeds(t *testing.T) {
	rows := 0
	for granules := 2; granules <= 5; granules++ {
		rows += tryAllOfBus(t, granules, nil, 6)
	}
	if rows < 10000 {
		t.Errorf("only %d rows of deeds", rows)
	}
}

// somePaths has some of a value's paths, and some that lead nowhere.
func somePaths(v made) []string {
	paths := []string{"", "0", "a/+", "zz"}
	for _, path := range slices.Sorted(maps.Keys(v.parts)) {
		if strings.Count(path, "/") < 2 && len(paths) < 8 {
			paths = append(paths, path)
		}
	}
	return paths
}

// Long rows of deeds, in which the bus's ring goes round many times, with
// messages of whatever type, and with what is near to one.
func TestP10LongRowsOfDeeds(t *testing.T) {
	m := newMaker(10)
	for range 150 {
		desc, of := m.description()
		b := newTwin(t, desc, 2+m.IntN(63))
		for i := range 150 {
			v := of.value()
			cut := m.IntN(len(v.data))
			switch n := m.IntN(20); {
			case n < 5+i/20%3:
				b.publishBoth(t, v.text)
			case n < 8:
				b.publishBoth(t, v.text[:m.IntN(len(v.text))])
			case n < 9:
				b.rawBoth(t, v.data)
			case n < 10:
				b.rawBoth(t, v.data[:cut]+"\x01"+v.data[cut+1:])
			case n < 11:
				b.rawBoth(t, v.data[:cut])
			case n < 16:
				b.consumeBoth(t)
			case n < 17:
				b.releaseBoth(t, b.known.oldestHeld())
			case n < 18:
				b.releaseBoth(t, b.known.newestHeld())
			case m.IntN(100) == 0:
				b.shutBoth(t)
			default:
				b.releaseBoth(t, len(b.known.frames)-m.IntN(12))
			}
			b.wantAlike(t, somePaths(v)...)
			if t.Failed() {
				t.Fatalf("a bus of %d granules, %q, deed %d", b.known.granules, desc, i)
			}
		}
	}
}

// What goes in as a value comes out as that value, and so does each of its parts.
func TestP10P11ManyValues(t *testing.T) {
	m, looked := newMaker(11), 0
	for range 1500 {
		desc, of := m.description()
		b := newBus(t, desc, 64)
		var in []made
		for range 4 {
			v := of.value()
			if e, _ := b.Publish(v.text); e == api.OK {
				in = append(in, v)
			} else if len(v.data) <= 126 { // 16 granules: a quarter
				t.Errorf("%q, %q: %d", desc, v.text, e)
			}
		}
		for i, v := range in {
			wantConsume(t, b, i+1, v.text, api.OK)
		}
		for i, v := range in {
			looked++
			for path, text := range v.parts {
				wantField(t, b, i+1, path, text, api.OK, 0)
			}
		}
		wantConsume(t, b, 0, "", api.ErrEmpty)
	}
	if looked < 3000 {
		t.Errorf("only %d values were looked at", looked)
	}
}
