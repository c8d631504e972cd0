package values

import (
	"testing"

	"sluice/describe"
)

func parsed(t *testing.T, text string) *describe.Type {
	t.Helper()
	of, err := describe.Parse(text)
	if err != nil {
		t.Fatal(err)
	}
	return of
}

func TestNumbersHaveTheirWidth(t *testing.T) {
	for kind, want := range map[describe.Kind]struct {
		width    int
		greatest uint64
	}{describe.Byte: {1, 255}, describe.Short: {2, 65535}, describe.Word: {4, 4294967295}, describe.Text: {0, 0}} {
		if width(kind) != want.width || greatest(kind) != want.greatest {
			t.Errorf("kind %d: %d, %d", kind, width(kind), greatest(kind))
		}
	}
}

func TestOneValueHoweverItIsTold(t *testing.T) {
	of := parsed(t, "m={a:int,b:[<x:text|y:?bool>],c:bytes}")
	text, data := `{-2,[y:+yes,x:"q",y:-],x00ff}`, "\xff\xff\xff\xff\xff\xff\xff\xfe\x03\x01\x01\x01\x00\x01q\x01\x00\x02\x00\xff"
	v, at, ok := FromText(of, text)
	if !ok || at != 0 {
		t.Fatalf("from text: %d, %v", at, ok)
	}
	w, at, ok := FromMessage(of, data)
	if !ok || at != 0 {
		t.Fatalf("from bytes: %d, %v", at, ok)
	}
	for _, x := range []Value{v, w} {
		message, ok := x.Message()
		if x.Text() != text || message != data || !ok {
			t.Errorf("%q, %q, %v", x.Text(), message, ok)
		}
	}
	if v.Parts[0].Number != -2 || len(v.Parts[1].Parts) != 3 || v.Parts[1].Parts[0].Number != 1 || v.Parts[2].Bytes != "\x00\xff" {
		t.Errorf("%+v", v)
	}
}

func TestWrongOnesTellTheirPlace(t *testing.T) {
	of := parsed(t, "m=[short]")
	if v, at, ok := FromText(of, "[1,65536]"); ok || at != 7 || v.Of != nil || v.Parts != nil {
		t.Errorf("from text: %+v, %d, %v", v, at, ok)
	}
	if v, at, ok := FromMessage(of, "\x02\x00\x00\x00"); ok || at != 4 || v.Of != nil || v.Parts != nil {
		t.Errorf("from bytes: %+v, %d, %v", v, at, ok)
	}
}
