package describe

import (
	"errors"
	"strings"
	"testing"

	"sluice/api"
)

func TestParseTellsTheLastLinesType(t *testing.T) {
	of, err := Parse("p={x:int,y:[byte]}\nm=<at:p|no:?p>")
	if err != nil || of.Kind != Choice || of.Depth != 5 || len(of.Parts) != 2 {
		t.Fatalf("%+v, %v", of, err)
	}
	at, no := of.Parts[0], of.Parts[1]
	if at.Name != "at" || at.Type.Kind != Record || at.Type.Depth != 3 || no.Name != "no" || no.Type.Kind != Option || no.Type.Parts[0].Type != at.Type {
		t.Errorf("%+v, %+v", at, no)
	}
	x, y := at.Type.Parts[0], at.Type.Parts[1]
	if x.Name != "x" || x.Type.Kind != Int || y.Name != "y" || y.Type.Kind != List || y.Type.Parts[0].Type.Kind != Byte {
		t.Errorf("%+v, %+v", x, y)
	}
}

func TestWords(t *testing.T) {
	for word, kind := range map[string]Kind{"byte": Byte, "short": Short, "word": Word, "int": Int, "bool": Bool, "text": Text, "bytes": Bytes} {
		if of, err := Parse("a=" + word); err != nil || of.Kind != kind || of.Depth != 1 || of.Parts != nil {
			t.Errorf("%s: %+v, %v", word, of, err)
		}
	}
}

func TestRefusalIsTakenApart(t *testing.T) {
	for text, want := range map[string]Refusal{
		strings.Repeat("a", 401): {api.ErrLong, 0}, "a=[": {api.ErrForm, 3}, "a=b": {api.ErrName, 2}, "a=byte\nb=" + strings.Repeat("?", 12) + "a": {api.ErrDeep, 7},
	} {
		of, err := Parse(text)
		var refusal *Refusal
		if of != nil || !errors.As(err, &refusal) || *refusal != want {
			t.Errorf("%.40q: %v, %v, want %v", text, of, err, want)
		}
	}
}

func TestRefusalsText(t *testing.T) {
	if text := (&Refusal{api.ErrName, 12}).Error(); text != "no description: error 3 at byte 12" {
		t.Errorf("%q", text)
	}
}
