// Package describe: descriptions, and the types that they tell of.
package describe

// Kind is what sort of type a type is.
type Kind int

// The words' kinds come first, in the order of the table of words.
const (
	Byte Kind = iota
	Short
	Word
	Int
	Bool
	Text
	Bytes
	List
	Option
	Record
	Choice
)

var words = [...]string{"byte", "short", "word", "int", "bool", "text", "bytes"}

// Type is a type of a description. Types that several lines name are shared:
// nobody writes into one.
type Type struct {
	Kind  Kind
	Parts []Part // a record's fields, a choice's cases; of a list or an option one, without a name
	Depth int
}

// Part is a type within another one, by its name.
type Part struct {
	Name string
	Type *Type
}

func wordType(name string) (*Type, bool) {
	for kind, word := range words {
		if word == name {
			return &Type{Kind: Kind(kind), Depth: 1}, true
		}
	}
	return nil, false
}

func compound(kind Kind, parts ...Part) *Type {
	deepest := 0
	for _, part := range parts {
		deepest = max(deepest, part.Type.Depth)
	}
	return &Type{Kind: kind, Parts: parts, Depth: deepest + 1}
}

func find(parts []Part, name string) (*Type, bool) {
	for _, part := range parts {
		if part.Name == name {
			return part.Type, true
		}
	}
	return nil, false
}
