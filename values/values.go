// Package values: values of described types, read from text and from messages,
// and written as both.
package values

import "sluice/describe"

// Value is one value of a type, apart from how it is written.
type Value struct {
	Of     *describe.Type
	Number int64   // a number; of a bool 1 for yes; of a choice its case's number
	Bytes  string  // of a text and of bytes
	Parts  []Value // a list's elements, a record's fields, what an option or a choice holds
}

// width is how many bytes a number without a sign has in a message.
func width(kind describe.Kind) int {
	bytes := 0
	switch kind {
	case describe.Word:
		bytes += 2
		fallthrough
	case describe.Short:
		bytes++
		fallthrough
	case describe.Byte:
		bytes++
	}
	return bytes
}

func greatest(kind describe.Kind) uint64 { return 1<<(8*width(kind)) - 1 }

const (
	intWidth     = 8
	firstVisible = ' ' // of the bytes that a text may have
	lastVisible  = '~'
)
