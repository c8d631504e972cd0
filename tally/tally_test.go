package tally

import (
	"slices"
	"testing"

	"sluice/api"
	"sluice/describe"
)

func TestMessagesByWhateverWorkers(t *testing.T) {
	of, err := describe.Parse("m={b:byte,a:[short]}")
	if err != nil {
		t.Fatal(err)
	}
	messages := []string{"\x01\x02\x01\x00\x02\x00", "\x03\x00", "\x04", "\x05\x01\x06\x01"}
	want := []api.Sum{{Path: "a/*", Count: 3, Total: 265}, {Path: "b", Count: 3, Total: 9}}
	for workers := 1; workers <= 8; workers++ {
		if sums, refused := Messages(of, messages, workers); !slices.Equal(sums, want) || refused != 1 {
			t.Errorf("by %d workers: %v, %d", workers, sums, refused)
		}
	}
}

func TestSumsPutTogether(t *testing.T) {
	one, two := sums{}, sums{}
	one.addNumber("b", 1)
	one.addNumber("a", 2)
	two.addNumber("b", -5)
	two.addNumber("b", 1)
	want := []api.Sum{{Path: "a", Count: 1, Total: 2}, {Path: "b", Count: 3, Total: -3}}
	for _, found := range [][]sums{{one, two}, {two, {}, one}} {
		if all := together(found).sorted(); !slices.Equal(all, want) {
			t.Errorf("%v, want %v", all, want)
		}
	}
	if all := together(nil).sorted(); len(all) > 0 {
		t.Errorf("of nothing: %v", all)
	}
}
