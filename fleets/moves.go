package fleets

import "rollout/api"

// situation: the releases that the services have, and those that they have had so far.
type situation struct {
	has, had set
}

func (c Chart) begin() situation {
	return situation{has: c.first, had: c.first}
}

// Sound tells whether the first configuration is sound.
func (c Chart) Sound() bool {
	for place, has := range c.first {
		if has && !allAlong(c.first, c.along[place]) {
			return false
		}
	}
	return true
}

// allAlong tells whether all that are in a set are among those that get along.
func allAlong(asked set, along set) bool {
	for place, isAsked := range asked {
		if isAsked && !along[place] {
			return false
		}
	}
	return true
}

// AreMoves tells whether each of the moves is one, safe or not, and whether they are not too many.
func (c Chart) AreMoves(moves []api.Move) bool {
	if len(moves) > api.MaxMoves {
		return false
	}
	now := c.begin()
	for _, move := range moves {
		place := placeOf(move.Service, move.To)
		if !c.isMove(now, place) {
			return false
		}
		now = now.after(place)
	}
	return true
}

// SafeMoves tells how many of the moves stand ahead of the first that is not safe.
func (c Chart) SafeMoves(moves []api.Move) int {
	now := c.begin()
	for k, move := range moves {
		place := placeOf(move.Service, move.To)
		if !c.isSafe(now, place) {
			return k
		}
		now = now.after(place)
	}
	return len(moves)
}

// isMove tells whether a service can be taken to the release at a place.
func (c Chart) isMove(now situation, place int) bool {
	return IsNumber(place, places) && c.there[place] && !now.has[place]
}

func (c Chart) isSafe(now situation, place int) bool {
	if !IsNumber(place, places) || !c.along[place][place] {
		return false
	}
	return allAlong(now.has, c.along[place]) && allAlong(now.had, c.forEver[place])
}

// after answers the situation that is left when a service was taken to the release at a place.
func (now situation) after(place int) situation {
	if !IsNumber(place, places) {
		return now
	}
	service := moveTo(place).Service
	for other := 0; other < places; other++ {
		if moveTo(other).Service == service {
			now.has[other] = false
		}
	}
	now.has[place] = true
	now.had[place] = true
	return now
}
