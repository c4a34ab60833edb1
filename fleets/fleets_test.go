package fleets

import (
	"math"
	"testing"

	"rollout/api"
)

func TestPlaces(t *testing.T) {
	last := -1
	for service := 0; service < api.MaxServices; service++ {
		for release := 0; release < api.MaxReleases; release++ {
			place := placeOf(service, release)
			if place != last+1 || moveTo(place) != (api.Move{Service: service, To: release}) {
				t.Errorf("placeOf(%d, %d) = %d, and back %+v", service, release, place, moveTo(place))
			}
			last = place
		}
	}
	if last != places-1 {
		t.Errorf("the last place is %d", last)
	}
	for _, wrong := range []int{math.MinInt, -1, 3, math.MaxInt} {
		for right := 0; right < 3; right++ {
			if placeOf(wrong, right) != -1 || placeOf(right, wrong) != -1 {
				t.Errorf("placeOf with %d and %d", wrong, right)
			}
		}
	}
}

// One release writes, the other reads: in a topic that keeps its records for ever, in one that does not, in different ones.
func TestCompare(t *testing.T) {
	topics := []api.Topic{{Keep: 0}, {Keep: 1}}
	readable := readableOf([]string{"i", "l"})
	for _, c := range []struct {
		a, b           api.Pin
		along, forEver bool
	}{
		{api.Pin{Topic: 0, Writes: 1, Reads: -1}, api.Pin{Topic: 0, Writes: -1, Reads: 0}, false, false},
		{api.Pin{Topic: 1, Writes: 1, Reads: -1}, api.Pin{Topic: 1, Writes: -1, Reads: 0}, false, true},
		{api.Pin{Topic: 1, Writes: 0, Reads: -1}, api.Pin{Topic: 1, Writes: -1, Reads: 1}, true, true},
		{api.Pin{Topic: 0, Writes: 1, Reads: -1}, api.Pin{Topic: 1, Writes: -1, Reads: 0}, true, true},
		{api.Pin{Topic: 0, Writes: 1, Reads: -1}, api.Pin{Topic: 0, Writes: 0, Reads: -1}, true, true},
		{api.Pin{Topic: 0, Writes: 0, Reads: 0}, api.Pin{Topic: 0, Writes: 1, Reads: 1}, false, false},
	} {
		for _, pins := range [][2]api.Pin{{c.a, c.b}, {c.b, c.a}} {
			along, forEver := compare(topics, readable, pins[:1], pins[1:])
			if along != c.along || forEver != c.forEver {
				t.Errorf("compare of %+v = %t, %t", pins, along, forEver)
			}
		}
	}
}

// A chart is asked for only of fleets in order, but any other does no harm.
func TestNoOrder(t *testing.T) {
	wild := api.Pin{Topic: math.MaxInt, Writes: math.MaxInt, Reads: math.MinInt}
	service := api.Service{Size: -1, Now: math.MaxInt, Want: math.MinInt, Releases: make([]api.Release, 7)}
	service.Releases[0].Pins = []api.Pin{wild, wild, {Topic: -1, Writes: 8, Reads: 9}, {Topic: 0, Writes: 7, Reads: 8}}
	f := api.Fleet{Schemas: make([]string, 20), Topics: make([]api.Topic, 1), Services: []api.Service{service, service, service, service, service}}
	for _, f := range []api.Fleet{{}, f} {
		chart := ChartOf(f)
		chart.Sound()
		moves := []api.Move{{Service: -1, To: 0}, {Service: 0, To: 9}, {Service: math.MaxInt, To: math.MinInt}}
		if InOrder(f) || chart.AreMoves(moves) || chart.SafeMoves(moves) != 0 {
			t.Errorf("something is in order: %+v", chart)
		}
		chart.Explore().Shortest()
	}
}
