package values

import (
	"slices"
	"strconv"
	"testing"

	"sluice/api"
	"sluice/describe"
)

func parsed(t *testing.T, text string) *describe.Type {
	t.Helper()
	of, err := describe.Parse(text)
	if err != nil {
		t.Fatal(err)
	}
	return of
}

func TestNumbersHaveTheirWidth(t *testing.T) {
	for kind, want := range map[describe.Kind]struct {
		width    int
		greatest uint64
	}{describe.Byte: {1, 255}, describe.Short: {2, 65535}, describe.Word: {4, 4294967295}, describe.Text: {0, 0}} {
		if width(kind) != want.width || greatest(kind) != want.greatest {
			t.Errorf("kind %d: %d, %d", kind, width(kind), greatest(kind))
		}
	}
}

func TestOneValueHoweverItIsTold(t *testing.T) {
	of := parsed(t, "m={a:int,b:[<x:text|y:?bool>],c:bytes}")
	text, data := `{-2,[y:+yes,x:"q",y:-],x00ff}`, "\xff\xff\xff\xff\xff\xff\xff\xfe\x03\x01\x01\x01\x00\x01q\x01\x00\x02\x00\xff"
	v, errno, at := FromText(of, text)
	if errno != api.OK || at != 0 {
		t.Fatalf("from text: %d, %d", errno, at)
	}
	w, errno, at := FromMessage(of, data)
	if errno != api.OK || at != 0 {
		t.Fatalf("from bytes: %d, %d", errno, at)
	}
	for _, x := range []Value{v, w} {
		message, ok := x.Message()
		if x.Text() != text || message != data || !ok {
			t.Errorf("%q, %q, %v", x.Text(), message, ok)
		}
	}
	if v.Parts[0].Number != -2 || len(v.Parts[1].Parts) != 3 || v.Parts[1].Parts[0].Number != 1 || v.Parts[2].Bytes != "\x00\xff" {
		t.Errorf("%+v", v)
	}
}

func TestWrongOnesTellTheirPlace(t *testing.T) {
	of := parsed(t, "m=[short]")
	if v, errno, at := FromText(of, "[1,65536]"); errno != api.ErrValue || at != 7 || v.Of != nil || v.Parts != nil {
		t.Errorf("from text: %+v, %d, %d", v, errno, at)
	}
	if v, errno, at := FromMessage(of, "\x02\x00\x00\x00"); errno != api.ErrData || at != 4 || v.Of != nil || v.Parts != nil {
		t.Errorf("from bytes: %+v, %d, %d", v, errno, at)
	}
	if v, errno, at := FromMessage(of, string(make([]byte, 1001))); errno != api.ErrLong || at != 0 || v.Of != nil || v.Parts != nil {
		t.Errorf("from too many bytes: %+v, %d, %d", v, errno, at)
	}
}

func TestPathsToParts(t *testing.T) {
	v, errno, at := FromText(parsed(t, "m=[?{a:<x:byte|y:[int]>,b:short}]"), "[+{y:[-4,5],7},-,+{x:6,8}]")
	if errno != api.OK {
		t.Fatalf("%d, %d", errno, at)
	}
	for path, want := range map[string]string{"": v.Text(), "0": "+{y:[-4,5],7}", "1": "-", "2/+/a": "x:6", "0/+/a/y/1": "5"} {
		if part, step, ok := v.Part(path); !ok || step != 0 || part.Text() != want {
			t.Errorf("%q: %+v, %d, %v, want %q", path, part, step, ok, want)
		}
	}
	for path, want := range map[string]int{"3": 0, "1/+": 1, "0/+/a/x": 3, "0/+/a/y/2": 4, "0/+/a/y/0/0": 5} {
		if part, step, ok := v.Part(path); ok || step != want || part.Of != nil {
			t.Errorf("%q: %+v, %d, %v, want the step %d", path, part, step, ok, want)
		}
	}
	var told []string
	v.Numbers(func(path string, number int64) { told = append(told, path+" "+strconv.FormatInt(number, 10)) })
	if want := []string{"*/+/a/y/* -4", "*/+/a/y/* 5", "*/+/b 7", "*/+/a/x 6", "*/+/b 8"}; !slices.Equal(told, want) {
		t.Errorf("%q, want %q", told, want)
	}
}
