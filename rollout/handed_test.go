package rollout_test

import (
	"fmt"
	"math/rand"
	"testing"

	"rollout/api"
	"rollout/rollout"
)

// roomy makes a list with spare room behind it, in which something stands.
func roomy[T any](list []T, spare T) []T {
	made := append(make([]T, 0, len(list)+3), list...)
	return append(made, spare, spare, spare)[:len(list)]
}

// roomyFleet makes a copy of a fleet with spare room behind each list.
func roomyFleet(f api.Fleet) api.Fleet {
	f.Schemas = roomy(f.Schemas, "spare")
	f.Topics = roomy(f.Topics, api.Topic{Keep: -5})
	f.Services = roomy(f.Services, api.Service{Size: -5})
	for s := range f.Services {
		service := &f.Services[s]
		service.Releases = roomy(service.Releases, api.Release{Pins: []api.Pin{{Topic: -5}}})
		for r := range service.Releases {
			service.Releases[r].Pins = roomy(service.Releases[r].Pins, api.Pin{Topic: -5})
		}
	}
	return f
}

// whole makes the list with its spare room.
func whole[T any](list []T) []T { return list[:cap(list)] }

// print tells all that stands in a fleet and in a list of moves, and in the spare room.
func print(f api.Fleet, moves []api.Move) string {
	text := fmt.Sprint(whole(f.Schemas), whole(f.Topics), whole(f.Services), whole(moves))
	for _, service := range f.Services {
		text += fmt.Sprint(whole(service.Releases))
		for _, release := range service.Releases {
			text += fmt.Sprint(whole(release.Pins))
		}
	}
	return text
}

// wreck writes over all that stands in a fleet and in a list of moves, and in the spare room.
func wreck(f api.Fleet, moves []api.Move) {
	for _, service := range whole(f.Services) {
		for _, release := range whole(service.Releases) {
			overwrite(release.Pins, api.Pin{Topic: -7, Writes: -7, Reads: -7})
		}
		overwrite(service.Releases, api.Release{})
	}
	overwrite(f.Services, api.Service{Size: -7, Now: -7})
	overwrite(f.Topics, api.Topic{Keep: -7})
	overwrite(f.Schemas, "wrecked")
	overwrite(moves, api.Move{Service: -7, To: -7})
}

func overwrite[T any](list []T, with T) {
	for k := range whole(list) {
		whole(list)[k] = with
	}
}

// P2: nothing that is handed in is written into, nor its spare room; and the spare room changes no answer.
func TestHandedInFleet(t *testing.T) {
	m := maker{rand.New(rand.NewSource(12))}
	for k := 0; k < 600; k++ {
		f := m.fleet()
		if k%4 == 0 {
			m.spoil(&f)
		}
		moves := list([2]int{0, 1}, [2]int{0, 0}, [2]int{1, 1})
		check := rollout.CheckFleet(f)
		safe, safeErrno := rollout.Safe(f, moves)
		plan, planErrno := rollout.Plan(f, 100)
		f = roomyFleet(f)
		moves = roomy(moves, api.Move{Service: -5})
		before := print(f, moves)
		if errno := rollout.CheckFleet(f); errno != check {
			t.Errorf("CheckFleet(%+v) = %d, then %d", f, check, errno)
		}
		wantSafe(t, f, moves, safe, safeErrno)
		if planErrno == api.OK {
			wantPlan(t, f, 100, plan)
		} else {
			wantNoPlan(t, f, 100, planErrno)
		}
		if after := print(f, moves); after != before {
			t.Errorf("%s became %s", before, after)
		}
	}
}

// P2: a plan is the caller's, with its spare room: what is written there changes no other plan.
func TestPlanIsFresh(t *testing.T) {
	fleets := []api.Fleet{exampleFleet(2), roundabout(0, 1), free([]int{3, 3, 3}, []int{0, 0, 0}, []int{1, 1, 1}), free([]int{1}, []int{0}, []int{0})}
	for _, f := range fleets {
		want, _ := rollout.Plan(f, 512)
		want = append([]api.Move(nil), want...)
		var plans [][]api.Move
		for k := 0; k < 3; k++ {
			plan, errno := rollout.Plan(f, 512)
			if errno != api.OK {
				t.Errorf("Plan(%+v) = %d", f, errno)
			}
			plans = append(plans, whole(plan))
		}
		for k := range plans {
			for at := range plans[k] {
				plans[k][at] = api.Move{Service: k + 7, To: at}
			}
			wantPlan(t, f, 512, want)
		}
		for k := range plans {
			for at := range plans[k] {
				if (plans[k][at] != api.Move{Service: k + 7, To: at}) {
					t.Errorf("plan %d of %+v shares room", k, f)
				}
			}
		}
	}
}

// P2: the fleet may be changed between two calls; each answers to what it is given.
func TestFleetIsNotKept(t *testing.T) {
	f := exampleFleet(2)
	wantPlan(t, f, 6, list([2]int{1, 1}, [2]int{0, 1}))
	f.Topics[0].Keep = 0
	wantNoPlan(t, f, 6, api.ErrNone)
	f.Schemas[1] = f.Schemas[0]
	wantPlan(t, f, 512, list([2]int{0, 1}, [2]int{1, 1}))
	f.Services[0].Releases[1].Pins[0].Topic = 1
	wantNoOrder(t, "no such topic", f)
	f.Services[0].Releases[1].Pins[0].Topic = 0
	f.Topics[0].Keep = 2
	f.Schemas[1] = "{a:l}"
	wantPlan(t, f, 6, list([2]int{1, 1}, [2]int{0, 1}))
}

// P2: the lists of messages and of records are the caller's, with their spare room: what is written there changes neither the run nor another list.
func TestRunListsAreFresh(t *testing.T) {
	for n := 0; n <= 20; n++ {
		x := exampleRun(t)
		var messages []api.Message
		var texts []string
		for k := 0; k < n; k++ {
			x.Tick()
			messages = append(messages, command(k+1, 1, 0, 1))
		}
		for k := 0; k < min(n, api.MaxRecords); k++ {
			wantProduce(t, x, 0, 0, 0, "{a:3}", api.OK)
			texts = append(texts, "{a:3}")
		}
		var lists [][]api.Message
		var views [][]string
		for k := 0; k < 3; k++ {
			view, _ := x.View(1, k%2, 0)
			lists = append(lists, whole(x.Pending()))
			views = append(views, whole(view))
		}
		for k := range lists {
			overwrite(lists[k], api.Message{Kind: k + 7})
			overwrite(views[k], string(rune('k'+k)))
			wantPending(t, x, messages...)
			wantView(t, x, 1, 0, 0, texts...)
		}
		// What joins behind them does not come into their room, nor go from it.
		x.Tick()
		wantProduce(t, x, 0, 0, 0, "{a:4}", []api.Errno{api.OK, api.ErrFull}[n/api.MaxRecords%2])
		for k := range lists {
			for _, message := range lists[k] {
				if (message != api.Message{Kind: k + 7}) {
					t.Errorf("list %d of %d messages shares room", k, n)
				}
			}
			for _, text := range views[k] {
				if text != string(rune('k'+k)) {
					t.Errorf("view %d of %d records shares room", k, n)
				}
			}
		}
		wantPending(t, x, append(messages, command(n+1, 1, 0, 1))...)
	}
}
