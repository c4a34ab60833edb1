package rollout_test

import (
	"math"
	"math/rand"
	"reflect"
	"testing"

	"rollout/api"
	"rollout/rollout"
)

// wantPlan fails the test unless this is the plan.
func wantPlan(t *testing.T, f api.Fleet, budget int, want []api.Move) {
	t.Helper()
	moves, errno := rollout.Plan(f, budget)
	if errno != api.OK || len(moves) != len(want) || len(want) > 0 && !reflect.DeepEqual(moves, want) {
		t.Errorf("Plan(%+v, %d) = %v, %d, want %v", f, budget, moves, errno, want)
	}
}

// wantNoPlan fails the test unless there is this error, and no list with it.
func wantNoPlan(t *testing.T, f api.Fleet, budget int, want api.Errno) {
	t.Helper()
	moves, errno := rollout.Plan(f, budget)
	if moves != nil || errno != want {
		t.Errorf("Plan(%+v, %d) = %v, %d, want %d", f, budget, moves, errno, want)
	}
}

// wantSituations fails the test unless just so many situations can be reached, as the budgets tell.
func wantSituations(t *testing.T, f api.Fleet, want int) {
	t.Helper()
	for budget := 1; budget <= want+1; budget++ {
		_, errno := rollout.Plan(f, budget)
		if (errno == api.ErrBudget) != (budget < want) {
			t.Errorf("Plan(%+v, %d): %d, with %d situations", f, budget, errno, want)
		}
	}
}

// P10, examples 7 and 8.
func TestPlanExamples(t *testing.T) {
	want := list([2]int{1, 1}, [2]int{0, 1})
	wantPlan(t, exampleFleet(2), 6, want)
	wantPlan(t, exampleFleet(2), 7, want)
	wantPlan(t, exampleFleet(2), 512, want)
	wantPlan(t, exampleFleet(2), math.MaxInt, want)
	wantNoPlan(t, exampleFleet(2), 5, api.ErrBudget)
	wantNoPlan(t, exampleFleet(0), 3, api.ErrNone)
	wantNoPlan(t, exampleFleet(0), 2, api.ErrBudget)
	wantSituations(t, exampleFleet(2), 6)
	wantSituations(t, exampleFleet(0), 3)
	choices := oneTopic(1, []string{"<ab>", "<cd>", "<abcd>"}, service(1, writes(0), writes(1)), service(1, reads(0), reads(1), reads(2)))
	wantPlan(t, choices, 512, list([2]int{1, 2}, [2]int{0, 1}, [2]int{1, 1}))
}

// P10: a budget below 1, and what goes ahead of what.
func TestPlanErrors(t *testing.T) {
	unsound := turned(exampleFleet(2), func(f *api.Fleet) { f.Services[0].Now = 1 })
	for _, budget := range []int{0, -1, -1 << 32, math.MinInt} {
		wantNoPlan(t, exampleFleet(2), budget, api.ErrArg)
		wantNoPlan(t, exampleFleet(0), budget, api.ErrArg)
		wantNoPlan(t, unsound, budget, api.ErrArg)
	}
	for _, budget := range []int{1, 2, 512, math.MaxInt} {
		wantNoPlan(t, unsound, budget, api.ErrStart)
	}
	// It is not sound, though each service has what it wants.
	unsound.Services[1].Want = 0
	wantNoPlan(t, unsound, 512, api.ErrStart)
	// ErrBudget goes ahead of ErrNone, and of a list that lies within the budget.
	wantNoPlan(t, exampleFleet(0), 1, api.ErrBudget)
	wantNoPlan(t, turned(exampleFleet(2), func(f *api.Fleet) { f.Services[0].Want = 0 }), 5, api.ErrBudget)
	wantNoPlan(t, turned(exampleFleet(2), func(f *api.Fleet) { f.Services[0].Want, f.Services[1].Want = 0, 0 }), 5, api.ErrBudget)
}

// P10: each service has what it wants at once.
func TestPlanNothing(t *testing.T) {
	wantPlan(t, turned(exampleFleet(2), func(f *api.Fleet) { f.Services[0].Want, f.Services[1].Want = 0, 0 }), 6, nil)
	wantPlan(t, oneTopic(0, nil, service(0, release())), 1, nil)
	wantPlan(t, api.Fleet{Services: []api.Service{service(0, release())}}, 1, nil)
	stuck := oneTopic(0, []string{"i", "s"}, service(0, writes(0), reads(1)))
	wantPlan(t, stuck, 1, nil)
	stuck.Services[0].Want = 1
	wantNoPlan(t, stuck, 1, api.ErrNone)
}

// free makes a fleet whose releases all get along, with so many of each service, each at its Now and with its Want.
func free(counts []int, now []int, want []int) api.Fleet {
	f := oneTopic(0, []string{"i"})
	for s, count := range counts {
		made := api.Service{Size: 1, Now: now[s], Want: want[s]}
		for ; count > 0; count-- {
			made.Releases = append(made.Releases, release([3]int{0, 0, 0}))
		}
		f.Services = append(f.Services, made)
	}
	return f
}

// P10: how many situations there are, up to 512: a service with two releases has 3 pasts with a present, one with three has 8.
func TestPlanSituations(t *testing.T) {
	wantSituations(t, free([]int{1}, []int{0}, []int{0}), 1)
	wantSituations(t, free([]int{2}, []int{1}, []int{0}), 3)
	wantSituations(t, free([]int{3}, []int{2}, []int{0}), 8)
	wantSituations(t, free([]int{2, 3}, []int{0, 1}, []int{1, 0}), 24)
	wantSituations(t, free([]int{2, 2, 2}, []int{0, 1, 0}, []int{1, 0, 1}), 27)
	wantSituations(t, free([]int{3, 3, 3}, []int{1, 1, 1}, []int{0, 1, 2}), 512)
}

// P10: of several shortest lists the lower service comes first, wherever the releases are.
func TestPlanOrder(t *testing.T) {
	for a := 0; a < 3; a++ {
		for b := 0; b < 3; b++ {
			for c := 0; c < 3; c++ {
				var want []api.Move
				for s, to := range []int{a, b, c} {
					if to != 2-s {
						want = append(want, api.Move{Service: s, To: to})
					}
				}
				wantPlan(t, free([]int{3, 3, 3}, []int{2, 1, 0}, []int{a, b, c}), 512, want)
			}
		}
	}
}

// roundabout makes a fleet in which its service gets from one release to another only by way of the third.
func roundabout(now int, want int) api.Fleet {
	releases := make([]api.Release, 3)
	releases[now] = release([3]int{0, 0, 0})
	releases[want] = release([3]int{0, 1, 1})
	releases[3-now-want] = reads(2)
	return oneTopic(1, []string{"<ab>", "<cd>", "<abcd>"}, api.Service{Size: 1, Now: now, Want: want, Releases: releases})
}

// P10: a way by a third release, wherever it is; and none, if the records stay for ever.
func TestPlanByThirdRelease(t *testing.T) {
	for now := 0; now < 3; now++ {
		for want := 0; want < 3; want++ {
			if now == want {
				continue
			}
			f := roundabout(now, want)
			wantPlan(t, f, 512, list([2]int{0, 3 - now - want}, [2]int{0, want}))
			f.Topics[0].Keep = 0
			wantNoPlan(t, f, 512, api.ErrNone)
		}
	}
}

// P10: a service that has what it wants steps aside for another, to the lower of two releases, and comes back.
func TestPlanLowerTo(t *testing.T) {
	for now := 0; now < 3; now++ {
		f := roundabout(0, 1)
		// What release 2, in between, writes there can be read by neither but the release that the other service has now.
		f.Topics = append(f.Topics, api.Topic{Keep: 1})
		f.Services[0].Releases[2].Pins = append(f.Services[0].Releases[2].Pins, api.Pin{Topic: 1, Writes: 0, Reads: -1})
		other := api.Service{Size: 3, Now: now, Want: now, Releases: make([]api.Release, 3)}
		other.Releases[now] = release([3]int{1, -1, 1})
		f.Services = append(f.Services, other)
		lower := 0
		if now == 0 {
			lower = 1
		}
		wantPlan(t, f, 512, list([2]int{1, lower}, [2]int{0, 2}, [2]int{0, 1}, [2]int{1, now}))
		f.Services[0], f.Services[1] = f.Services[1], f.Services[0]
		wantPlan(t, f, 512, list([2]int{0, lower}, [2]int{1, 2}, [2]int{1, 1}, [2]int{0, now}))
	}
}

// P10: fleets made at random.
func TestPlanAsModel(t *testing.T) {
	m := maker{rand.New(rand.NewSource(10))}
	seen := map[api.Errno]int{}
	long := 0
	for k := 0; k < 1200; k++ {
		f := m.tightFleet()
		if k < 200 {
			f = m.fleet()
		}
		want, situations, errno := modelPlan(f)
		seen[errno]++
		if errno == api.ErrStart {
			wantNoPlan(t, f, 1, errno)
			continue
		}
		if situations > 1 {
			wantNoPlan(t, f, 1+m.Intn(situations-1), api.ErrBudget)
			wantNoPlan(t, f, situations-1, api.ErrBudget)
		}
		if errno == api.ErrNone {
			wantNoPlan(t, f, situations, errno)
			continue
		}
		wantPlan(t, f, situations, want)
		wantSafe(t, f, want, len(want), api.OK)
		if len(want) > 3 {
			long++
		}
	}
	if seen[api.OK] < 400 || seen[api.ErrNone] < 100 || seen[api.ErrStart] < 200 || long < 20 {
		t.Errorf("too few of some answer: %v, %d", seen, long)
	}
}
