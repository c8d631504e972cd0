package sluice

import (
	"math"
	"slices"
	"testing"

	"sluice/api"
)

func newRing(t *testing.T, granules int) *Ring {
	t.Helper()
	r, e := NewRing(granules)
	if r == nil || e != api.OK {
		t.Fatalf("NewRing(%d) = %v, %d", granules, r, e)
	}
	return r
}

func wantPut(t *testing.T, r *Ring, data string, errno api.Errno) {
	t.Helper()
	if e := r.Put(data); e != errno {
		t.Errorf("Put of %d bytes = %d, want %d", len(data), e, errno)
	}
}

func wantTake(t *testing.T, r *Ring, frame int, errno api.Errno) {
	t.Helper()
	if n, e := r.Take(); n != frame || e != errno {
		t.Errorf("Take() = %d, %d, want %d, %d", n, e, frame, errno)
	}
}

func wantView(t *testing.T, r *Ring, frame, from, to int, data string, errno api.Errno) {
	t.Helper()
	if s, e := r.View(frame, from, to); s != data || e != errno {
		t.Errorf("View(%d, %d, %d) = %q, %d, want %q, %d", frame, from, to, s, e, data, errno)
	}
}

// wantFrame asks for all bytes of a frame that is held, and for no more.
func wantFrame(t *testing.T, r *Ring, frame int, data string) {
	t.Helper()
	wantView(t, r, frame, 0, len(data), data, api.OK)
	wantView(t, r, frame, 0, len(data)+1, "", api.ErrConf)
}

func wantRelease(t *testing.T, r *Ring, frame int, errno api.Errno) {
	t.Helper()
	if e := r.Release(frame); e != errno {
		t.Errorf("Release(%d) = %d, want %d", frame, e, errno)
	}
}

func wantRoom(t *testing.T, r *Ring, taken, waiting, held int) {
	t.Helper()
	if room, want := r.Room(), (api.Room{Taken: taken, Waiting: waiting, Held: held}); room != want {
		t.Errorf("Room() = %+v, want %+v", room, want)
	}
}

// sized is as many bytes as fill so many granules.
func sized(granules int) string { return times("z", 8*granules-2) }

// putThrough puts a frame in, and lets it go again.
func putThrough(t *testing.T, r *Ring, frame int, data string) {
	t.Helper()
	wantPut(t, r, data, api.OK)
	wantTake(t, r, frame, api.OK)
	wantRelease(t, r, frame, api.OK)
}

func TestP8P9Example(t *testing.T) {
	r := newRing(t, 4)
	wantPut(t, r, "abcdef", api.OK)
	wantPut(t, r, "ghijkl", api.OK)
	wantPut(t, r, "mnopqrstuvwxyz", api.OK)
	wantRoom(t, r, 4, 3, 0)
	wantPut(t, r, "", api.ErrFull)
	wantTake(t, r, 1, api.OK)
	wantTake(t, r, 2, api.OK)
	wantRelease(t, r, 2, api.OK)
	wantRoom(t, r, 4, 1, 1)
	wantRelease(t, r, 1, api.OK)
	wantRoom(t, r, 2, 1, 0)
	wantPut(t, r, "ABCDEF", api.OK)
	wantPut(t, r, "ABCDEFG", api.ErrFull)
	wantRoom(t, r, 3, 2, 0)
	wantPut(t, r, "ABCDEFGHIJKLMNO", api.ErrLarge)
	wantTake(t, r, 3, api.OK)
	wantFrame(t, r, 3, "mnopqrstuvwxyz")
	wantTake(t, r, 4, api.OK)
	wantFrame(t, r, 4, "ABCDEF")
}

func TestP8SizesOfRings(t *testing.T) {
	for granules := -70; granules <= 200; granules++ {
		if granules >= 2 && granules <= 64 {
			wantRoom(t, newRing(t, granules), 0, 0, 0)
			continue
		}
		if r, e := NewRing(granules); r != nil || e != api.ErrConf {
			t.Errorf("NewRing(%d) = %v, %d", granules, r, e)
		}
	}
	for _, granules := range []int{math.MinInt, math.MinInt + 2, math.MinInt32, 1<<32 + 2, 1<<61 + 4, math.MaxInt} {
		if r, e := NewRing(granules); r != nil || e != api.ErrConf {
			t.Errorf("NewRing(%d) = %v, %d", granules, r, e)
		}
	}
}

func TestP8GranulesOfFrames(t *testing.T) {
	for _, c := range []struct{ bytes, granules int }{{0, 1}, {1, 1}, {5, 1}, {6, 1}, {7, 2}, {8, 2}, {13, 2}, {14, 2}, {15, 3}, {22, 3}, {23, 4}, {246, 31}, {247, 32}, {254, 32}} {
		r := newRing(t, 64)
		wantPut(t, r, times("z", c.bytes), api.OK)
		wantRoom(t, r, c.granules, 1, 0)
	}
	for bytes := range 255 {
		r, granules := newRing(t, 64), (bytes+9)/8
		wantPut(t, r, times("z", bytes), api.OK)
		wantRoom(t, r, granules, 1, 0)
		wantPut(t, r, times("y", bytes), api.OK)
		wantRoom(t, r, 2*granules, 2, 0)
	}
}

func TestP8MoreThanHalfIsTooLarge(t *testing.T) {
	for granules := 2; granules <= 64; granules++ {
		r, half := newRing(t, granules), granules/2
		wantPut(t, r, sized(half)+"z", api.ErrLarge)
		wantRoom(t, r, 0, 0, 0)
		wantPut(t, r, sized(half), api.OK)
		wantPut(t, r, sized(half), api.OK)
		wantRoom(t, r, 2*half, 2, 0)
		for range granules - 2*half {
			wantPut(t, r, "", api.OK)
		}
		full := r.Room()
		// too large is ahead of full
		wantPut(t, r, sized(half)+"z", api.ErrLarge)
		wantPut(t, r, times("z", 1<<20), api.ErrLarge)
		wantPut(t, r, sized(half), api.ErrFull)
		if room := r.Room(); room != full || full.Taken != granules {
			t.Errorf("Room() = %+v, before %+v", room, full)
		}
	}
}

func TestP8FilledToTheLastGranule(t *testing.T) {
	for granules := 2; granules <= 64; granules++ {
		r := newRing(t, granules)
		for i := range granules {
			wantRoom(t, r, i, i, 0)
			wantPut(t, r, "", api.OK)
		}
		wantPut(t, r, "", api.ErrFull)
		wantRoom(t, r, granules, granules, 0)
		wantTake(t, r, 1, api.OK)
		wantPut(t, r, "", api.ErrFull)
		wantRelease(t, r, 1, api.OK)
		wantPut(t, r, "", api.OK)
		wantPut(t, r, "", api.ErrFull)
	}
}

// A gap is as much in the way as the frame behind it, and goes with that one.
func TestP8Gap(t *testing.T) {
	r := newRing(t, 6)
	wantPut(t, r, sized(1), api.OK) // granule 0
	wantPut(t, r, sized(2), api.OK) // 1 and 2
	wantPut(t, r, sized(2), api.OK) // 3 and 4
	wantTake(t, r, 1, api.OK)
	wantRelease(t, r, 1, api.OK)
	wantRoom(t, r, 4, 2, 0)
	wantPut(t, r, sized(2), api.ErrFull) // 5 and 0 are free, but 5 would be a gap
	wantRoom(t, r, 4, 2, 0)
	wantTake(t, r, 2, api.OK)
	wantRelease(t, r, 2, api.OK)
	wantPut(t, r, "the fourth", api.OK) // a gap at 5; 0 and 1
	wantRoom(t, r, 5, 2, 0)
	wantPut(t, r, sized(2), api.ErrFull)
	wantTake(t, r, 3, api.OK)
	wantTake(t, r, 4, api.OK)
	wantRelease(t, r, 3, api.OK)
	wantRoom(t, r, 3, 0, 1) // the gap is the oldest frame's
	wantFrame(t, r, 4, "the fourth")
	wantPut(t, r, sized(3), api.OK) // 2 to 4
	wantRoom(t, r, 6, 1, 1)
	wantRelease(t, r, 4, api.OK)
	wantRoom(t, r, 3, 1, 0)
}

// Released or not, a gap within what is taken is taken.
func TestP8GapBehindAnOlderFrame(t *testing.T) {
	r := newRing(t, 5)
	putThrough(t, r, 1, sized(2)) // 0 and 1
	wantPut(t, r, sized(2), api.OK)
	wantPut(t, r, sized(2), api.OK) // a gap at 4; 0 and 1
	wantTake(t, r, 2, api.OK)
	wantTake(t, r, 3, api.OK)
	wantRelease(t, r, 3, api.OK)
	wantRoom(t, r, 5, 0, 1)
	wantPut(t, r, "", api.ErrFull)
	wantRelease(t, r, 2, api.OK)
	wantRoom(t, r, 0, 0, 0)
}

func TestP8NoGapJustAtTheEnd(t *testing.T) {
	r := newRing(t, 6)
	putThrough(t, r, 1, sized(3)) // 0 to 2
	wantPut(t, r, sized(3), api.OK)
	wantRoom(t, r, 3, 1, 0)
	wantPut(t, r, sized(3), api.OK) // 0 to 2 again, without a gap
	wantRoom(t, r, 6, 2, 0)
}

// Empty, a ring goes on where it was, so that there may be a gap ahead of the only frame.
func TestP8EmptyRingGoesOnWhereItWas(t *testing.T) {
	for granules := 2; granules <= 64; granules++ {
		for begin := range granules {
			r, half := newRing(t, granules), granules/2
			for i := range begin {
				putThrough(t, r, i+1, "")
			}
			wantRoom(t, r, 0, 0, 0)
			gap := 0
			if begin+half > granules {
				gap = granules - begin
			}
			wantPut(t, r, sized(half), api.OK)
			wantRoom(t, r, gap+half, 1, 0)
			wantTake(t, r, begin+1, api.OK)
			wantFrame(t, r, begin+1, sized(half))
		}
	}
}

func TestP8Shut(t *testing.T) {
	r := newRing(t, 4)
	wantPut(t, r, "abc", api.OK)
	wantPut(t, r, "def", api.OK)
	if room := r.Room(); room.Shut {
		t.Errorf("shut: %+v", room)
	}
	for _, want := range []api.Errno{api.OK, api.ErrShut, api.ErrShut} {
		if e := r.Shut(); e != want {
			t.Errorf("Shut() = %d, want %d", e, want)
		}
		if room, want := r.Room(), (api.Room{Taken: 2, Waiting: 2, Shut: true}); room != want {
			t.Errorf("Room() = %+v, want %+v", room, want)
		}
	}
	// shut is ahead of too large and of full
	for _, data := range []string{"", "abc", sized(2), sized(3), times("z", 1<<20)} {
		wantPut(t, r, data, api.ErrShut)
	}
	wantTake(t, r, 1, api.OK)
	wantTake(t, r, 2, api.OK)
	wantTake(t, r, 0, api.ErrShut)
	wantFrame(t, r, 1, "abc")
	wantFrame(t, r, 2, "def")
	wantRelease(t, r, 2, api.OK)
	wantRelease(t, r, 1, api.OK)
	wantTake(t, r, 0, api.ErrShut)
	wantPut(t, r, "", api.ErrShut)
	if room, want := r.Room(), (api.Room{Shut: true}); room != want {
		t.Errorf("Room() = %+v, want %+v", room, want)
	}
}

func TestP9TakeInTheirOrder(t *testing.T) {
	r := newRing(t, 8)
	wantTake(t, r, 0, api.ErrEmpty)
	wantPut(t, r, "one", api.OK)
	wantPut(t, r, "two", api.OK)
	wantTake(t, r, 1, api.OK)
	wantPut(t, r, "three", api.OK)
	wantRoom(t, r, 3, 2, 1)
	wantTake(t, r, 2, api.OK)
	wantTake(t, r, 3, api.OK)
	wantTake(t, r, 0, api.ErrEmpty)
	wantRoom(t, r, 3, 0, 3)
	wantRelease(t, r, 2, api.OK)
	wantTake(t, r, 0, api.ErrEmpty)
	wantPut(t, r, "four", api.OK)
	wantTake(t, r, 4, api.OK)
	for frame, data := range map[int]string{1: "one", 3: "three", 4: "four"} {
		wantFrame(t, r, frame, data)
	}
	// a frame that found no room has no number
	wantPut(t, r, times("z", 100), api.ErrLarge)
	wantPut(t, r, "five", api.OK)
	wantTake(t, r, 5, api.OK)
}

func TestP9ViewPieces(t *testing.T) {
	r, data := newRing(t, 8), "abcdefghijk"
	wantPut(t, r, "", api.OK)
	wantPut(t, r, data, api.OK)
	wantPut(t, r, "behind", api.OK)
	wantTake(t, r, 1, api.OK)
	wantTake(t, r, 2, api.OK)
	places := []int{math.MinInt, math.MinInt + 1, -8, -2, -1, 12, 13, 14, 16, 64, 512, 1 << 32, math.MaxInt - 1, math.MaxInt}
	for i := range 12 {
		places = append(places, i)
	}
	for _, from := range places {
		for _, to := range places {
			if 0 <= from && from <= to && to <= len(data) {
				wantView(t, r, 2, from, to, data[from:to], api.OK)
			} else {
				wantView(t, r, 2, from, to, "", api.ErrConf)
			}
			if from != 0 || to != 0 {
				wantView(t, r, 1, from, to, "", api.ErrConf)
			}
		}
	}
	wantView(t, r, 1, 0, 0, "", api.OK)
}

func TestP9OnlyHeldFrames(t *testing.T) {
	r := newRing(t, 8)
	putThrough(t, r, 1, "released")
	wantPut(t, r, "held", api.OK)
	wantPut(t, r, "released within", api.OK)
	wantPut(t, r, "held", api.OK)
	wantPut(t, r, "waits", api.OK)
	for frame := 2; frame <= 4; frame++ {
		wantTake(t, r, frame, api.OK)
	}
	wantRelease(t, r, 3, api.OK)
	before := r.Room()
	for _, frame := range []int{math.MinInt, math.MinInt + 1, math.MinInt + 2, -4, -2, -1, 0, 1, 3, 5, 6, 7, 64, 1<<32 + 2, math.MaxInt - 1, math.MaxInt} {
		wantRelease(t, r, frame, api.ErrFrame)
		for _, to := range []int{-1, 0, 1, 1000} { // that there is no such frame is ahead of the places
			wantView(t, r, frame, 0, to, "", api.ErrFrame)
		}
	}
	if r.Room() != before {
		t.Errorf("%+v, before %+v", r.Room(), before)
	}
	wantFrame(t, r, 2, "held")
	wantFrame(t, r, 4, "held")
	wantTake(t, r, 5, api.OK)
	wantFrame(t, r, 5, "waits")
}

func TestP9EveryByte(t *testing.T) {
	r, low, high := newRing(t, 64), "", ""
	for b := range 128 {
		low += string([]byte{byte(b)})
		high += string([]byte{byte(b + 128)})
	}
	wantPut(t, r, low, api.OK)
	wantPut(t, r, high, api.OK)
	wantTake(t, r, 1, api.OK)
	wantTake(t, r, 2, api.OK)
	wantFrame(t, r, 1, low)
	wantFrame(t, r, 2, high)
}

// orders has each order of some numbers.
func orders(numbers []int) [][]int {
	if len(numbers) == 0 {
		return [][]int{nil}
	}
	var all [][]int
	for i, n := range numbers {
		for _, rest := range orders(slices.Delete(slices.Clone(numbers), i, i+1)) {
			all = append(all, append([]int{n}, rest...))
		}
	}
	return all
}

// In whatever order frames are released, room comes back from the oldest on.
func TestP9ReleaseInWhateverOrder(t *testing.T) {
	sizes := []int{2, 1, 3, 1, 2}
	for _, order := range orders([]int{1, 2, 3, 4, 5}) {
		r, released := newRing(t, 9), map[int]bool{}
		for i, size := range sizes {
			wantPut(t, r, sized(size), api.OK)
			wantTake(t, r, i+1, api.OK)
		}
		for i, frame := range order {
			wantRelease(t, r, frame, api.OK)
			wantRelease(t, r, frame, api.ErrFrame)
			released[frame] = true
			oldest, taken := 1, 0
			for released[oldest] {
				oldest++
			}
			for _, size := range sizes[oldest-1:] {
				taken += size
			}
			wantRoom(t, r, taken, 0, 4-i)
		}
	}
}

// What was told stays as it is, though its room has other bytes since.
func TestP9WhatWasViewedStays(t *testing.T) {
	r := newRing(t, 2)
	wantPut(t, r, "before", api.OK)
	wantTake(t, r, 1, api.OK)
	told, _ := r.View(1, 0, 6)
	wantRelease(t, r, 1, api.OK)
	putThrough(t, r, 2, "behind")
	putThrough(t, r, 3, "behind")
	if told != "before" {
		t.Errorf("%q", told)
	}
}

// A frame's room may have had other bytes, more of them or fewer.
func TestP9RoomThatWasUsed(t *testing.T) {
	r := newRing(t, 4)
	for i, data := range []string{"mnopqrstuvwxyz", "\xff\xff\xff\xff\xff\xff\xff\xff\xff\xff\xff\xff\xff\xff", "ab", "", "", "", "ABCDEFGHIJ", ""} {
		wantPut(t, r, data, api.OK)
		wantTake(t, r, i+1, api.OK)
		wantFrame(t, r, i+1, data)
		wantRelease(t, r, i+1, api.OK)
	}
}

func TestP2RingsKnowNothingOfEachOther(t *testing.T) {
	one, two := newRing(t, 4), newRing(t, 4)
	wantPut(t, one, "one's", api.OK)
	wantTake(t, two, 0, api.ErrEmpty)
	wantPut(t, two, "two's", api.OK)
	wantPut(t, two, "two's too", api.OK)
	wantTake(t, one, 1, api.OK)
	wantRoom(t, two, 3, 2, 0)
	wantTake(t, two, 1, api.OK)
	wantFrame(t, one, 1, "one's")
	wantFrame(t, two, 1, "two's")
	if e := two.Shut(); e != api.OK {
		t.Errorf("Shut() = %d", e)
	}
	wantRelease(t, two, 1, api.OK)
	wantFrame(t, one, 1, "one's")
	wantPut(t, one, "", api.OK)
	wantRoom(t, one, 2, 1, 1)
}
