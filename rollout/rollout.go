// Package rollout: a fleet that moves from release to release while its records stay readable: see DOC.md.
package rollout

import (
	"rollout/api"
	"rollout/fleets"
	"rollout/schemas"
)

// Check tells whether a text is a schema (P3).
func Check(schema string) api.Errno {
	_, errno := typeOf(schema)
	return errno
}

// Encode gives the data of a value's text (P4).
func Encode(schema string, text string) (string, api.Errno) {
	// Ahead of the schema: ErrLong is named before ErrSchema.
	if len(text) > api.MaxText {
		return "", api.ErrLong
	}
	t, errno := typeOf(schema)
	if errno != api.OK {
		return "", errno
	}
	data, ok := schemas.Encode(t, text)
	if !ok {
		return "", api.ErrText
	}
	if len(data) > api.MaxData {
		return "", api.ErrBig
	}
	return data, api.OK
}

// Decode gives the text of a value's data (P5).
func Decode(schema string, data string) (string, api.Errno) {
	if len(data) > api.MaxData {
		return "", api.ErrLong
	}
	t, errno := typeOf(schema)
	if errno != api.OK {
		return "", errno
	}
	text, ok := schemas.Decode(t, data)
	if !ok {
		return "", api.ErrData
	}
	return text, api.OK
}

// typeOf gives the type that a schema tells, or the error that Check answers.
func typeOf(schema string) (schemas.Type, api.Errno) {
	if len(schema) > api.MaxSchema {
		return schemas.Type{}, api.ErrLong
	}
	t, ok := schemas.Parse(schema)
	if !ok {
		return schemas.Type{}, api.ErrSchema
	}
	return t, api.OK
}

// Read gives the text of what a value is read as (P6).
func Read(writer string, reader string, data string) (string, api.Errno) {
	if len(data) > api.MaxData {
		return "", api.ErrLong
	}
	w, r, errno := typesOf(writer, reader)
	if errno != api.OK {
		return "", errno
	}
	_, valid := schemas.Decode(w, data)
	if !valid {
		return "", api.ErrData
	}
	text, ok := schemas.Read(w, r, data)
	if !ok {
		return "", api.ErrRead
	}
	return text, api.OK
}

// Fits tells whether every value can be read (P7).
func Fits(writer string, reader string) (string, api.Errno) {
	w, r, errno := typesOf(writer, reader)
	if errno != api.OK {
		return "", errno
	}
	text, found := schemas.Unreadable(w, r)
	if found {
		return text, api.ErrFit
	}
	return "", api.OK
}

// typesOf gives the types of a writer's and a reader's schema, or the error that they have.
func typesOf(writer string, reader string) (schemas.Type, schemas.Type, api.Errno) {
	// Of both ahead of either's ErrSchema: ErrLong is named first.
	if len(writer) > api.MaxSchema || len(reader) > api.MaxSchema {
		return schemas.Type{}, schemas.Type{}, api.ErrLong
	}
	w, errno := typeOf(writer)
	if errno != api.OK {
		return schemas.Type{}, schemas.Type{}, errno
	}
	r, errno := typeOf(reader)
	if errno != api.OK {
		return schemas.Type{}, schemas.Type{}, errno
	}
	return w, r, api.OK
}

// CheckFleet tells whether a fleet is in order (P8).
func CheckFleet(f api.Fleet) api.Errno {
	if !fleets.InOrder(f) {
		return api.ErrFleet
	}
	return api.OK
}

// Safe tells how many moves are safe (P9).
func Safe(f api.Fleet, moves []api.Move) (int, api.Errno) {
	if !fleets.InOrder(f) {
		return 0, api.ErrFleet
	}
	chart := fleets.ChartOf(f)
	if !chart.AreMoves(moves) {
		return 0, api.ErrMoves
	}
	if !chart.Sound() {
		return 0, api.ErrStart
	}
	return chart.SafeMoves(moves), api.OK
}

// Plan finds the shortest safe list of moves (P10).
func Plan(f api.Fleet, budget int) ([]api.Move, api.Errno) {
	if !fleets.InOrder(f) {
		return nil, api.ErrFleet
	}
	if budget < 1 {
		return nil, api.ErrArg
	}
	chart := fleets.ChartOf(f)
	if !chart.Sound() {
		return nil, api.ErrStart
	}
	tour := chart.Explore()
	if tour.Situations() > budget {
		return nil, api.ErrBudget
	}
	moves, found := tour.Shortest()
	if !found {
		return nil, api.ErrNone
	}
	return moves, api.OK
}
