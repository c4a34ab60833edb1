package fleets

import "rollout/api"

// step is a situation that safe moves lead to.
type step struct {
	now  situation
	from int // the number of the step that the last move was made in
	to   int // the place of the release that the last move took its service to
}

// Tour has a step for each situation that safe moves can lead to, in the order of the lists of moves that lead there:
// the shorter list comes first, and of two of one length the one that is lower in the first move in which they part.
type Tour struct {
	steps  []step
	wanted set
}

// Explore answers the tour through all situations of a chart.
func (c Chart) Explore() Tour {
	steps := []step{{now: c.begin()}}
	// It ends, since there are only so many situations, and none comes twice.
	for k := 0; k < len(steps); k++ {
		now := steps[k].now
		for place := 0; place < places; place++ {
			if !c.isMove(now, place) || !c.isSafe(now, place) {
				continue
			}
			next := now.after(place)
			if !isReached(steps, next) {
				steps = append(steps, step{now: next, from: k, to: place})
			}
		}
	}
	return Tour{steps: steps, wanted: c.wanted}
}

func isReached(steps []step, next situation) bool {
	for _, reached := range steps {
		if reached.now == next {
			return true
		}
	}
	return false
}

// Situations tells how many situations can be reached.
func (t Tour) Situations() int {
	return len(t.steps)
}

// Shortest answers the first of the shortest lists that lead each service to the release that it shall have; false, if there is none.
func (t Tour) Shortest() ([]api.Move, bool) {
	for k, reached := range t.steps {
		if reached.now.has == t.wanted {
			return t.movesTo(k), true
		}
	}
	return nil, false
}

// movesTo answers the moves that lead to a step.
func (t Tour) movesTo(k int) []api.Move {
	backwards := []api.Move{}
	// Each step comes behind the one that it is made from, and the first, 0, from none.
	for k > 0 && k < len(t.steps) {
		backwards = append(backwards, moveTo(t.steps[k].to))
		k = t.steps[k].from
	}
	moves := []api.Move{}
	for at := len(backwards) - 1; at >= 0; at-- {
		moves = append(moves, backwards[at])
	}
	return moves
}
