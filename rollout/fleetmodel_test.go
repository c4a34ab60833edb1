package rollout_test

import (
	"strconv"

	"rollout/api"
	"rollout/rollout"
)

// someFleetSchemas fit each other in part.
var someFleetSchemas = []string{"i", "l", "?i", "?l", "<ab>", "<abc>", "<xa+>", "[i]", "[l]", "{a:i}", `{a:l,b:s="-"}`, `{a:i,c:<ab>=a}`, "{a:i,b:s}"}

// fleet makes one that is in order.
func (m maker) fleet() api.Fleet {
	var f api.Fleet
	kind := m.Intn(3)
	for n := m.Intn(4) + 1; n > 0; n-- {
		// Of one kind mostly, or no two releases would get along.
		pool := [][]string{someFleetSchemas[:4], someFleetSchemas[4:7], someFleetSchemas[9:]}[kind]
		if m.Intn(8) == 0 {
			pool = someFleetSchemas
		}
		f.Schemas = append(f.Schemas, pool[m.Intn(len(pool))])
	}
	for n := m.Intn(api.MaxTopics) + 1; n > 0; n-- {
		f.Topics = append(f.Topics, api.Topic{Keep: m.Intn(api.MaxKeep+1) * min(1, m.Intn(4))})
	}
	for n := m.many(api.MaxServices); n > 0; n-- {
		count := m.many(api.MaxReleases)
		made := api.Service{Size: 1 + m.Intn(api.MaxSize), Now: m.Intn(count), Want: m.Intn(count)}
		for ; count > 0; count-- {
			made.Releases = append(made.Releases, m.release(f))
		}
		f.Services = append(f.Services, made)
	}
	return f
}

// tightFleet makes one in which few releases get along, so that it is a long way to those that the services shall have.
func (m maker) tightFleet() api.Fleet {
	f := api.Fleet{Schemas: []string{"<ab>", "<cd>", "<abcd>", "<ef>", "<abef>"}, Topics: make([]api.Topic, 4)}
	for topic := range f.Topics {
		f.Topics[topic].Keep = min(1, m.Intn(20))
	}
	for s := 0; s < 3; s++ {
		made := api.Service{Size: 1, Now: m.Intn(3), Want: m.Intn(3), Releases: make([]api.Release, 3)}
		for r := range made.Releases {
			for topic := range f.Topics {
				pin := api.Pin{Topic: topic, Writes: max(-1, m.Intn(33)-28), Reads: max(-1, m.Intn(33)-28)}
				made.Releases[r].Pins = append(made.Releases[r].Pins, pin)
			}
		}
		f.Services = append(f.Services, made)
	}
	return f
}

// many makes a number from 1 to the bound, the bound mostly.
func (m maker) many(bound int) int {
	return max(1+m.Intn(bound), 1+m.Intn(bound))
}

func (m maker) release(f api.Fleet) api.Release {
	var made api.Release
	for _, topic := range m.Perm(len(f.Topics)) {
		pin := api.Pin{Topic: topic, Writes: -1, Reads: -1}
		if m.Intn(5) < 2 {
			pin.Writes = m.Intn(len(f.Schemas))
		}
		if m.Intn(5) < 2 {
			pin.Reads = m.Intn(len(f.Schemas))
		}
		if m.Intn(5) > 0 {
			made.Pins = append(made.Pins, pin)
		}
	}
	return made
}

// spoil turns a number in the fleet into one near it, or cuts off or doubles the end of a list.
func (m maker) spoil(f *api.Fleet) {
	near := m.Intn(3) - 1
	s := m.Intn(len(f.Services)+1) - 1
	if s < 0 {
		switch m.Intn(5) {
		case 0:
			f.Schemas = append(f.Schemas, []string{"i", "ii", "??i"}[m.Intn(3)])
		case 1:
			f.Schemas = f.Schemas[:len(f.Schemas)*m.Intn(2)]
		case 2:
			f.Topics = append(f.Topics, f.Topics...)
		case 3:
			f.Topics = f.Topics[:len(f.Topics)*m.Intn(2)]
		case 4:
			f.Services = append(f.Services, f.Services...)
		}
		return
	}
	service := &f.Services[s]
	switch m.Intn(6) {
	case 0:
		service.Size += near
	case 1:
		service.Now += near
	case 2:
		service.Want += near
	case 3:
		service.Releases = append(service.Releases, service.Releases...)
	case 4:
		service.Releases = service.Releases[:len(service.Releases)*m.Intn(2)]
	case 5:
		for r := range service.Releases {
			for p := range service.Releases[r].Pins {
				pin := &service.Releases[r].Pins[p]
				*[]*int{&pin.Topic, &pin.Writes, &pin.Reads}[m.Intn(3)] += near
			}
		}
	}
}

// modelInOrder goes by the document's sentence, clause by clause.
func modelInOrder(f api.Fleet) bool {
	ok := len(f.Schemas) <= 8 && len(f.Topics) <= 4 && len(f.Services) >= 1 && len(f.Services) <= 3
	for _, schema := range f.Schemas {
		ok = ok && rollout.Check(schema) == api.OK
	}
	for _, topic := range f.Topics {
		ok = ok && topic.Keep >= 0 && topic.Keep <= 6
	}
	for _, s := range f.Services {
		n := len(s.Releases)
		ok = ok && s.Size >= 1 && s.Size <= 3 && n >= 1 && n <= 3
		ok = ok && s.Now >= 0 && s.Now < n && s.Want >= 0 && s.Want < n
		for _, r := range s.Releases {
			topics := map[int]bool{}
			for _, pin := range r.Pins {
				topics[pin.Topic] = true
				ok = ok && pin.Topic >= 0 && pin.Topic < len(f.Topics)
				ok = ok && pin.Writes >= -1 && pin.Writes < len(f.Schemas)
				ok = ok && pin.Reads >= -1 && pin.Reads < len(f.Schemas)
			}
			ok = ok && len(r.Pins) <= 4 && len(topics) == len(r.Pins)
		}
	}
	return ok
}

// modelAlong tells whether two releases get along in a topic.
func modelAlong(f api.Fleet, a api.Release, b api.Release, topic int) bool {
	for _, both := range [][2]api.Release{{a, b}, {b, a}} {
		for _, writer := range both[0].Pins {
			for _, reader := range both[1].Pins {
				if writer.Topic != topic || reader.Topic != topic || writer.Writes < 0 || reader.Reads < 0 {
					continue
				}
				if _, errno := rollout.Fits(f.Schemas[writer.Writes], f.Schemas[reader.Reads]); errno != api.OK {
					return false
				}
			}
		}
	}
	return true
}

// modelSound tells whether the first configuration is sound.
func modelSound(f api.Fleet) bool {
	for topic := range f.Topics {
		for _, a := range f.Services {
			for _, b := range f.Services {
				if !modelAlong(f, a.Releases[a.Now], b.Releases[b.Now], topic) {
					return false
				}
			}
		}
	}
	return true
}

// modelNow is what moves leave: each service's release, and all those that were had, as moves to them.
type modelNow struct {
	has []int
	had map[api.Move]bool
}

func modelAfter(f api.Fleet, moves []api.Move) modelNow {
	now := modelNow{had: map[api.Move]bool{}}
	for s, service := range f.Services {
		now.has = append(now.has, service.Now)
		now.had[api.Move{Service: s, To: service.Now}] = true
	}
	for _, move := range moves {
		now.has[move.Service] = move.To
		now.had[move] = true
	}
	return now
}

// modelIsMove tells whether a move is one.
func modelIsMove(f api.Fleet, now modelNow, move api.Move) bool {
	if move.Service < 0 || move.Service >= len(f.Services) {
		return false
	}
	return move.To >= 0 && move.To < len(f.Services[move.Service].Releases) && now.has[move.Service] != move.To
}

// modelIsSafe tells whether a move is safe.
func modelIsSafe(f api.Fleet, now modelNow, move api.Move) bool {
	to := f.Services[move.Service].Releases[move.To]
	for topic := range f.Topics {
		safe := modelAlong(f, to, to, topic)
		for s, r := range now.has {
			safe = safe && modelAlong(f, to, f.Services[s].Releases[r], topic)
		}
		for old := range now.had {
			safe = safe && (f.Topics[topic].Keep > 0 || modelAlong(f, to, f.Services[old.Service].Releases[old.To], topic))
		}
		if !safe {
			return false
		}
	}
	return true
}

// modelSafe is Safe for a fleet in order.
func modelSafe(f api.Fleet, moves []api.Move) (int, api.Errno) {
	safe := len(moves)
	for k := len(moves) - 1; k >= 0; k-- {
		for _, ahead := range moves[:k] {
			if ahead.Service < 0 || ahead.Service >= len(f.Services) {
				return 0, api.ErrMoves
			}
		}
		now := modelAfter(f, moves[:k])
		if !modelIsMove(f, now, moves[k]) {
			return 0, api.ErrMoves
		}
	}
	if len(moves) > 200 {
		return 0, api.ErrMoves
	}
	if !modelSound(f) {
		return 0, api.ErrStart
	}
	for k := len(moves) - 1; k >= 0; k-- {
		if !modelIsSafe(f, modelAfter(f, moves[:k]), moves[k]) {
			safe = k
		}
	}
	return safe, api.OK
}

// modelGraph has the situations of a fleet, by name, with the safe moves from each to the next.
type modelGraph struct {
	next map[string]map[api.Move]string
	goal map[string]bool
}

func modelName(now modelNow) string {
	name := ""
	for s, has := range now.has {
		name += " " + strconv.Itoa(has)
		for r := 0; r < api.MaxReleases; r++ {
			if now.had[api.Move{Service: s, To: r}] {
				name += "," + strconv.Itoa(r)
			}
		}
	}
	return name
}

// walk goes on from where the moves lead, deep first.
func (g modelGraph) walk(f api.Fleet, moves []api.Move) string {
	now := modelAfter(f, moves)
	name := modelName(now)
	if g.next[name] != nil {
		return name
	}
	g.next[name] = map[api.Move]string{}
	g.goal[name] = true
	for s, service := range f.Services {
		g.goal[name] = g.goal[name] && now.has[s] == service.Want
		for r := range service.Releases {
			move := api.Move{Service: s, To: r}
			if modelIsMove(f, now, move) && modelIsSafe(f, now, move) {
				g.next[name][move] = g.walk(f, append(moves[:len(moves):len(moves)], move))
			}
		}
	}
	return name
}

// far tells how many moves it takes from each situation to the goal; those from which none lead there are left out.
func (g modelGraph) far() map[string]int {
	far := map[string]int{}
	for name, is := range g.goal {
		if is {
			far[name] = 0
		}
	}
	for changed := true; changed; {
		changed = false
		for name, moves := range g.next {
			for _, to := range moves {
				way, known := far[to]
				old, had := far[name]
				if known && (!had || way+1 < old) {
					far[name] = way + 1
					changed = true
				}
			}
		}
	}
	return far
}

// modelPlan is Plan for a fleet in order and a great budget; it tells the number of situations too.
// From each situation it takes the first move that comes nearer to the goal.
func modelPlan(f api.Fleet) ([]api.Move, int, api.Errno) {
	if !modelSound(f) {
		return nil, 0, api.ErrStart
	}
	g := modelGraph{map[string]map[api.Move]string{}, map[string]bool{}}
	name := g.walk(f, nil)
	far := g.far()
	if _, known := far[name]; !known {
		return nil, len(g.next), api.ErrNone
	}
	plan := []api.Move{}
	for !g.goal[name] {
		best := api.Move{Service: 9}
		for move, to := range g.next[name] {
			way, known := far[to]
			lower := move.Service < best.Service || move.Service == best.Service && move.To < best.To
			if known && way < far[name] && lower {
				best = move
			}
		}
		plan = append(plan, best)
		name = g.next[name][best]
	}
	return plan, len(g.next), api.OK
}
