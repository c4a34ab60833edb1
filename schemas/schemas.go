// Package schemas: schemas, how the values of their types are laid down as text and as data, and how they are read as another type.
package schemas

// The kinds of types: each is the byte that a type of that kind begins with.
const (
	Small  = 'i'
	Large  = 'l'
	String = 's'
	Choice = '<'
	List   = '['
	Maybe  = '?'
	Record = '{'
)

// The ranges of the numbers.
const (
	smallLow  int64 = -2147483648
	smallHigh int64 = 2147483647
	largeLow  int64 = -1000000000000000
	largeHigh int64 = 1000000000000000
)

// Type is what a schema tells.
type Type struct {
	Kind    int
	Letters string  // of a choice, in the schema's order
	Open    bool    // of a choice
	Inner   []Type  // of a list or a ? type: just one (a struct can't hold itself but in a slice)
	Fields  []Field // of a record, in the schema's order
}

// Field of a record.
type Field struct {
	Letter  int
	Type    Type
	Default string // the default's text; empty, as no value's text is, if there is no default
}

// inner answers the type within a list or a ? type. A type of no kind, which has no values, stands for a missing one.
func (t Type) inner() Type {
	if len(t.Inner) == 0 {
		return Type{}
	}
	return t.Inner[0]
}

// placeOfField answers the place of the field with a letter, or -1.
func placeOfField(fields []Field, letter int) int {
	for place, field := range fields {
		if field.Letter == letter {
			return place
		}
	}
	return -1
}
