package rollout_test

import (
	"math"
	"math/rand"
	"strings"
	"testing"

	"rollout/api"
	"rollout/rollout"
)

// release makes one with pins, each told by its topic, what it writes and what it reads.
func release(pins ...[3]int) api.Release {
	var made api.Release
	for _, pin := range pins {
		made.Pins = append(made.Pins, api.Pin{Topic: pin[0], Writes: pin[1], Reads: pin[2]})
	}
	return made
}

// service makes one that has release 0 and wants another one.
func service(want int, releases ...api.Release) api.Service {
	return api.Service{Size: 1, Want: want, Releases: releases}
}

// writes and reads make a release that just writes, or just reads, topic 0.
func writes(schema int) api.Release { return release([3]int{0, schema, -1}) }
func reads(schema int) api.Release  { return release([3]int{0, -1, schema}) }

// oneTopic makes a fleet with one topic.
func oneTopic(keep int, schemas []string, services ...api.Service) api.Fleet {
	return api.Fleet{Schemas: schemas, Topics: []api.Topic{{Keep: keep}}, Services: services}
}

// exampleFleet is that of example 7.
func exampleFleet(keep int) api.Fleet {
	f := oneTopic(keep, []string{"{a:i}", `{a:l,b:s="-"}`}, service(1, writes(0), writes(1)), service(1, reads(0), reads(1)))
	f.Services[1].Size = 2
	return f
}

// fullFleet has as much of everything as there may be.
func fullFleet() api.Fleet {
	var f api.Fleet
	for k := 0; k < api.MaxSchemas; k++ {
		f.Schemas = append(f.Schemas, "{a:s=\""+strings.Repeat("x", 60-len("{a:s=\"\"}"))+"\"}")
	}
	var full api.Release
	for k := 0; k < api.MaxTopics; k++ {
		f.Topics = append(f.Topics, api.Topic{Keep: api.MaxKeep})
		full.Pins = append(full.Pins, api.Pin{Topic: api.MaxTopics - 1 - k, Writes: api.MaxSchemas - 1, Reads: api.MaxSchemas - 1})
	}
	for k := 0; k < api.MaxServices; k++ {
		f.Services = append(f.Services, api.Service{Size: api.MaxSize, Now: api.MaxReleases - 1, Want: api.MaxReleases - 1})
		for r := 0; r < api.MaxReleases; r++ {
			f.Services[k].Releases = append(f.Services[k].Releases, copyOfRelease(full))
		}
	}
	return f
}

func copyOfRelease(r api.Release) api.Release {
	return api.Release{Pins: append([]api.Pin(nil), r.Pins...)}
}

func copyOfFleet(f api.Fleet) api.Fleet {
	f.Schemas = append([]string(nil), f.Schemas...)
	f.Topics = append([]api.Topic(nil), f.Topics...)
	f.Services = append([]api.Service(nil), f.Services...)
	for s, service := range f.Services {
		f.Services[s].Releases = append([]api.Release(nil), service.Releases...)
		for r, release := range service.Releases {
			f.Services[s].Releases[r] = copyOfRelease(release)
		}
	}
	return f
}

// turned makes a copy of a fleet with something turned in it.
func turned(f api.Fleet, turn func(f *api.Fleet)) api.Fleet {
	f = copyOfFleet(f)
	turn(&f)
	return f
}

// wantInOrder fails the test unless the fleet is in order.
func wantInOrder(t *testing.T, f api.Fleet) {
	t.Helper()
	if errno := rollout.CheckFleet(f); errno != api.OK {
		t.Errorf("CheckFleet(%+v) = %d, want OK", f, errno)
	}
}

// wantNoOrder fails the test unless each call answers that the fleet is not in order, ahead of any other error.
func wantNoOrder(t *testing.T, what string, f api.Fleet) {
	t.Helper()
	if errno := rollout.CheckFleet(f); errno != api.ErrFleet {
		t.Errorf("%s: CheckFleet = %d, want ErrFleet", what, errno)
	}
	for _, moves := range [][]api.Move{nil, {{Service: -1, To: -1}}, make([]api.Move, api.MaxMoves+1)} {
		if n, errno := rollout.Safe(f, moves); n != 0 || errno != api.ErrFleet {
			t.Errorf("%s: Safe = %d, %d, want ErrFleet", what, n, errno)
		}
		if x, errno := rollout.Start(f, moves); x != nil || errno != api.ErrFleet {
			t.Errorf("%s: Start = %v, %d, want ErrFleet", what, x, errno)
		}
	}
	for _, budget := range []int{math.MinInt, 0, 1, 512} {
		if moves, errno := rollout.Plan(f, budget); moves != nil || errno != api.ErrFleet {
			t.Errorf("%s: Plan with %d = %v, %d, want ErrFleet", what, budget, moves, errno)
		}
	}
}

// P8: fleets with the least and with the most of everything.
func TestCheckFleet(t *testing.T) {
	wantInOrder(t, exampleFleet(0))
	wantInOrder(t, exampleFleet(2))
	wantInOrder(t, fullFleet())
	wantInOrder(t, api.Fleet{Services: []api.Service{{Size: 1, Releases: []api.Release{{}}}}})
	for keep := 0; keep <= 6; keep++ {
		wantInOrder(t, exampleFleet(keep))
	}
	for size := 1; size <= 3; size++ {
		wantInOrder(t, turned(exampleFleet(1), func(f *api.Fleet) { f.Services[1].Size = size }))
	}
	// Nothing asks that a fleet's first configuration is sound, that a pin does something, or that schemas differ.
	wantInOrder(t, turned(exampleFleet(1), func(f *api.Fleet) { f.Services[0].Now = 1 }))
	wantInOrder(t, turned(exampleFleet(1), func(f *api.Fleet) { f.Schemas[1] = f.Schemas[0] }))
	wantInOrder(t, oneTopic(1, nil, service(0, release([3]int{0, -1, -1}))))
}

// wrongNumbers are numbers that nothing with so many things in it has.
func wrongNumbers(count int) []int {
	return []int{-1, count, count + 1, -2, 1 << 32, math.MaxInt, math.MinInt}
}

// P8: a number out of its bounds.
func TestCheckFleetNumbers(t *testing.T) {
	for name, f := range map[string]api.Fleet{"example": exampleFleet(2), "full": fullFleet()} {
		last := len(f.Services) - 1
		for _, s := range []int{0, last} {
			for _, k := range wrongNumbers(len(f.Services[s].Releases)) {
				wantNoOrder(t, name+", Now", turned(f, func(f *api.Fleet) { f.Services[s].Now = k }))
				wantNoOrder(t, name+", Want", turned(f, func(f *api.Fleet) { f.Services[s].Want = k }))
			}
			for _, size := range append(wrongNumbers(4), 0) {
				wantNoOrder(t, name+", Size", turned(f, func(f *api.Fleet) { f.Services[s].Size = size }))
			}
			r := len(f.Services[s].Releases) - 1
			p := len(f.Services[s].Releases[r].Pins) - 1
			for _, topic := range wrongNumbers(len(f.Topics)) {
				wantNoOrder(t, name+", Topic", turned(f, func(f *api.Fleet) { f.Services[s].Releases[r].Pins[p].Topic = topic }))
			}
			// -1 is no schema's number, but may stand here.
			for _, schema := range wrongNumbers(len(f.Schemas))[1:] {
				wantNoOrder(t, name+", Writes", turned(f, func(f *api.Fleet) { f.Services[s].Releases[r].Pins[p].Writes = schema }))
				wantNoOrder(t, name+", Reads", turned(f, func(f *api.Fleet) { f.Services[s].Releases[r].Pins[p].Reads = schema }))
			}
		}
		for _, keep := range wrongNumbers(7) {
			wantNoOrder(t, name+", Keep", turned(f, func(f *api.Fleet) { f.Topics[len(f.Topics)-1].Keep = keep }))
		}
	}
}

// P8: one more or one less than there may be of something.
func TestCheckFleetCounts(t *testing.T) {
	full := fullFleet()
	wantNoOrder(t, "nothing at all", api.Fleet{})
	wantNoOrder(t, "no service", turned(full, func(f *api.Fleet) { f.Services = nil }))
	wantNoOrder(t, "no release", turned(full, func(f *api.Fleet) { f.Services[1].Releases = nil }))
	wantNoOrder(t, "no schema", turned(full, func(f *api.Fleet) { f.Schemas = nil }))
	wantNoOrder(t, "no topic", turned(full, func(f *api.Fleet) { f.Topics = nil }))
	wantNoOrder(t, "one schema less", turned(full, func(f *api.Fleet) { f.Schemas = f.Schemas[:7] }))
	wantNoOrder(t, "one topic less", turned(full, func(f *api.Fleet) { f.Topics = f.Topics[:3] }))
	wantNoOrder(t, "one schema more", turned(full, func(f *api.Fleet) { f.Schemas = append(f.Schemas, "i") }))
	wantNoOrder(t, "one topic more", turned(full, func(f *api.Fleet) { f.Topics = append(f.Topics, api.Topic{}) }))
	wantNoOrder(t, "one service more", turned(full, func(f *api.Fleet) { f.Services = append(f.Services, f.Services[0]) }))
	for s := range full.Services {
		wantNoOrder(t, "one release more", turned(full, func(f *api.Fleet) {
			f.Services[s].Releases = append(f.Services[s].Releases, api.Release{})
		}))
		wantNoOrder(t, "one pin more", turned(full, func(f *api.Fleet) {
			f.Services[s].Releases[2].Pins = append(f.Services[s].Releases[2].Pins, api.Pin{Writes: -1, Reads: -1})
		}))
	}
}

// P8: two pins of one release for one topic; those of two releases may be for one.
func TestCheckFleetTwoPins(t *testing.T) {
	for a := 0; a < api.MaxPins; a++ {
		for b := 0; b < a; b++ {
			for s := 0; s < api.MaxServices; s++ {
				f := fullFleet()
				pins := f.Services[s].Releases[s].Pins
				pins[a].Topic = pins[b].Topic
				wantNoOrder(t, "two pins for one topic", f)
			}
		}
	}
}

// P8: a text among the schemas that is none, used or not.
func TestCheckFleetSchemas(t *testing.T) {
	for _, wrong := range []string{"", "x", "??i", "{a:i,a:i}", "{a:s=\"" + strings.Repeat("x", 53) + "\"}", strings.Repeat("[", 1<<20)} {
		for k := 0; k < api.MaxSchemas; k++ {
			f := fullFleet()
			f.Schemas[k] = wrong
			wantNoOrder(t, "no schema", f)
		}
		wantNoOrder(t, "no schema", turned(exampleFleet(1), func(f *api.Fleet) { f.Schemas = append(f.Schemas, wrong) }))
	}
}

// P1: lists of any length.
func TestCheckFleetLongLists(t *testing.T) {
	n := 1 << 20
	f := exampleFleet(1)
	wantNoOrder(t, "schemas", turned(f, func(f *api.Fleet) { f.Schemas = make([]string, n) }))
	wantNoOrder(t, "topics", turned(f, func(f *api.Fleet) { f.Topics = make([]api.Topic, n) }))
	wantNoOrder(t, "services", turned(f, func(f *api.Fleet) { f.Services = make([]api.Service, n) }))
	wantNoOrder(t, "releases", turned(f, func(f *api.Fleet) { f.Services[1].Releases = make([]api.Release, n) }))
	wantNoOrder(t, "pins", turned(f, func(f *api.Fleet) { f.Services[1].Releases[1].Pins = make([]api.Pin, n) }))
}

// P8: fleets made at random, most of them with something out of order.
func TestCheckFleetAsModel(t *testing.T) {
	m := maker{rand.New(rand.NewSource(8))}
	orderly := 0
	for k := 0; k < 20000; k++ {
		f := m.fleet()
		for n := m.Intn(3); n > 0; n-- {
			m.spoil(&f)
		}
		if modelInOrder(f) {
			orderly++
			wantInOrder(t, f)
		} else {
			wantNoOrder(t, "made", f)
		}
	}
	if orderly < 4000 || orderly > 16000 {
		t.Errorf("%d fleets of 20000 were in order", orderly)
	}
}
