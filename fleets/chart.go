package fleets

import (
	"rollout/api"
	"rollout/schemas"
)

// places: the releases of all services are numbered through, with room for MaxReleases of each service.
// So the order of places is that of services, and for one service that of its releases.
const places = api.MaxServices * api.MaxReleases

// set has the releases at some places.
type set [places]bool

// Chart is what the moves of a fleet hang on.
type Chart struct {
	there   set         // all releases
	first   set         // those of the first configuration
	wanted  set         // those that the services shall have
	along   [places]set // with which ones each gets along in every topic
	forEver [places]set // with which ones each gets along in every topic whose Keep is 0
}

// ChartOf answers the chart of a fleet that is in order.
func ChartOf(f api.Fleet) Chart {
	var c Chart
	var pins [places][]api.Pin
	for s, service := range f.Services {
		for r, release := range service.Releases {
			place := placeOf(s, r)
			if place < 0 || place >= places {
				continue
			}
			c.there[place] = true
			c.first[place] = r == service.Now
			c.wanted[place] = r == service.Want
			pins[place] = release.Pins
		}
	}
	readable := readableOf(f.Schemas)
	for a := 0; a < places; a++ {
		for b := 0; b < places; b++ {
			along, forEver := compare(f.Topics, readable, pins[a], pins[b])
			c.along[a][b] = along
			c.forEver[a][b] = forEver
		}
	}
	return c
}

// placeOf answers the place of a service's release, or -1, if no fleet has such a one.
func placeOf(service int, release int) int {
	if !IsNumber(service, api.MaxServices) || !IsNumber(release, api.MaxReleases) {
		return -1
	}
	return service*api.MaxReleases + release
}

// moveTo answers the move that takes a service to the release at a place.
func moveTo(place int) api.Move {
	return api.Move{Service: place / api.MaxReleases, To: place % api.MaxReleases}
}

// table tells of each two schemas whether every value of the first can be read as the second.
type table [api.MaxSchemas][api.MaxSchemas]bool

// readableOf compares the schemas once, since many releases may have the same ones.
func readableOf(texts []string) table {
	types := []schemas.Type{}
	for _, text := range texts {
		t, _ := schemas.Parse(text)
		types = append(types, t)
	}
	var readable table
	for w, writer := range types {
		for r, reader := range types {
			if w < api.MaxSchemas && r < api.MaxSchemas {
				_, found := schemas.Unreadable(writer, reader)
				readable[w][r] = !found
			}
		}
	}
	return readable
}

// compare tells whether two releases, with these pins, get along in every topic, and whether they do in every topic whose Keep is 0.
func compare(topics []api.Topic, readable table, a []api.Pin, b []api.Pin) (bool, bool) {
	along := true
	forEver := true
	for _, p := range a {
		for _, q := range b {
			if p.Topic != q.Topic || getAlong(readable, p, q) {
				continue
			}
			along = false
			if IsNumber(p.Topic, len(topics)) && topics[p.Topic].Keep == 0 {
				forEver = false
			}
		}
	}
	return along, forEver
}

// getAlong tells whether two pins for one topic get along, both ways about.
func getAlong(readable table, p api.Pin, q api.Pin) bool {
	return canRead(readable, p.Writes, q.Reads) && canRead(readable, q.Writes, p.Reads)
}

func canRead(readable table, writes int, reads int) bool {
	// Where nothing is written, or nothing read, there is nothing to ask.
	if writes == -1 || reads == -1 {
		return true
	}
	if !IsNumber(writes, api.MaxSchemas) || !IsNumber(reads, api.MaxSchemas) {
		return false
	}
	return readable[writes][reads]
}
