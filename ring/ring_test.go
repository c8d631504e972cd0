package ring

import (
	"strings"
	"testing"

	"sluice/api"
)

func made(t *testing.T, granules int) *Ring {
	t.Helper()
	r, errno := New(granules)
	if errno != api.OK {
		t.Fatalf("New(%d): %d", granules, errno)
	}
	return r
}

func put(t *testing.T, r *Ring, data string) {
	t.Helper()
	if errno := r.Put(data); errno != api.OK {
		t.Fatalf("Put(%q): %d", data, errno)
	}
}

// A frame's bytes lie behind two that tell how many they are, from a granule's
// first byte on; what else was there is left as it was.
func TestHowFramesLie(t *testing.T) {
	r := made(t, 4)
	put(t, r, "abc")
	put(t, r, "defghijkl")
	if row := string(r.row[:19]); row != "\x03\x00abc\x00\x00\x00\x09\x00defghijkl" {
		t.Errorf("%q", row)
	}
	for frame := 1; frame <= 2; frame++ {
		r.Take()
		r.Release(frame)
	}
	put(t, r, "mnopqrs")
	if row := string(r.row[:19]); row != "\x07\x00mnopqrs\x00defghijkl" {
		t.Errorf("%q", row)
	}
	if behindGap := (frame{at: 0, takes: 3, state: waits}); len(r.frames) != 1 || r.frames[0] != behindGap || r.next != 2 {
		t.Errorf("%+v, next %d", r.frames, r.next)
	}
}

func TestLargestFrame(t *testing.T) {
	r, data := made(t, api.MaxRing), strings.Repeat("z", api.MaxRing*api.Granule/2-head)
	put(t, r, data)
	put(t, r, data)
	if string(r.bytes(0)) != data || string(r.bytes(api.MaxRing/2)) != data || r.next != 0 {
		t.Errorf("%q, next %d", r.row, r.next)
	}
}

// What is kept does not grow with the frames that went through.
func TestReleasedFramesAreForgotten(t *testing.T) {
	r := made(t, 3)
	for i := range 10000 {
		put(t, r, "")
		if frame, errno := r.Take(); frame != i+1 || errno != api.OK {
			t.Fatalf("%d, %d", frame, errno)
		}
		r.Release(i + 1)
		if len(r.frames) != 0 || cap(r.frames) > 2*api.MaxRing || r.first != i+2 {
			t.Fatalf("%d frames of %d, first %d", len(r.frames), cap(r.frames), r.first)
		}
	}
}

func TestBytesOnlyOfHeldFrames(t *testing.T) {
	r := made(t, 4)
	put(t, r, "abcdefghij")
	put(t, r, "")
	wantNone := func(number int) {
		t.Helper()
		if data, errno := r.Bytes(number); data != "" || errno != api.ErrFrame {
			t.Errorf("Bytes(%d) = %q, %d", number, data, errno)
		}
	}
	wantNone(1)
	r.Take()
	if data, errno := r.Bytes(1); data != "abcdefghij" || errno != api.OK {
		t.Errorf("Bytes(1) = %q, %d", data, errno)
	}
	for _, number := range []int{-1, 0, 2, 3} {
		wantNone(number)
	}
	r.Take()
	if data, errno := r.Bytes(2); data != "" || errno != api.OK {
		t.Errorf("Bytes(2) = %q, %d", data, errno)
	}
	r.Release(1)
	wantNone(1)
}
