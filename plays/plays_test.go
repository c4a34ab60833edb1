package plays

import (
	"math"
	"testing"

	"rollout/api"
)

// A play is asked for only of fleets in order, with moves that are some, but any other does no harm.
func TestNoOrder(t *testing.T) {
	numbers := []int{math.MinInt, -1, 0, 1, 3, math.MaxInt}
	for _, n := range numbers {
		wild := api.Pin{Topic: n, Writes: n, Reads: n}
		service := api.Service{Size: math.MaxInt, Now: n, Want: n, Releases: []api.Release{{Pins: []api.Pin{wild}}}}
		f := api.Fleet{Schemas: []string{"??"}, Topics: []api.Topic{{Keep: n}}, Services: []api.Service{service, {Size: n}}}
		for _, moves := range [][]api.Move{{{Service: n, To: n}, {Service: 0, To: n}}, {{Service: 1, To: n}}} {
			p := Begin(f, moves)
			for k := 0; k < 80; k++ {
				p.Tick()
				message, found := p.Take(0)
				if found {
					p.Arrive(message)
				}
				// Even where it is over, or on its way back already.
				if k > 40 && k%3 == 0 {
					p.TurnBack()
				}
				if k > 60 {
					p.Crash()
				}
			}
			for _, topic := range numbers {
				p.Write(topic, "i", "")
				p.Writes(0, 0, topic)
				p.Reads(1, n, topic)
				p.Records(topic)
			}
		}
	}
}

// A play has no messages but its own, but any other, to instances that there are not, does nothing.
func TestStrayMessages(t *testing.T) {
	f := api.Fleet{Services: []api.Service{{Size: 1, Releases: make([]api.Release, 2)}}}
	p := Begin(f, []api.Move{{Service: 0, To: 1}})
	p.Tick()
	before := p.State()
	for _, n := range []int{math.MinInt, -1, 1, 3, math.MaxInt} {
		for _, kind := range []int{api.Command, api.Answer} {
			p.Arrive(api.Message{Kind: kind, Number: math.MaxInt, Instance: n})
		}
		p.Arrive(api.Message{Kind: api.Command, Number: math.MaxInt, Service: n})
	}
	release, _ := p.Release(0, 0)
	if p.State() != before || release != 0 || len(p.Pending()) != 1 {
		t.Errorf("%+v, release %d, %+v", p.State(), release, p.Pending())
	}
}

// A task has the release that its service had ahead of the move, whatever other services did meanwhile.
func TestTasks(t *testing.T) {
	services := []api.Service{{Size: 2, Now: 2}, {Size: 1, Now: 1}}
	moves := []api.Move{{Service: 0, To: 1}, {Service: 1, To: 0}, {Service: 0, To: 0}, {Service: 0, To: 2}, {Service: 1, To: 1}}
	want := []task{{0, 2, 2, 1}, {1, 1, 1, 0}, {0, 2, 1, 0}, {0, 2, 0, 2}, {1, 1, 0, 1}}
	tasks := tasksOf(services, moves)
	if len(tasks) != len(want) {
		t.Fatalf("%+v", tasks)
	}
	for k, task := range tasks {
		if task != want[k] {
			t.Errorf("task %d is %+v, want %+v", k, task, want[k])
		}
	}
}

// On the way back the task is the one ahead of the place, with the release from before.
func TestCurrentTask(t *testing.T) {
	c := controller{tasks: []task{{0, 2, 2, 1}, {1, 3, 1, 0}}, stage: api.Going}
	forth := []task{{}, {0, 2, 2, 1}, {1, 3, 1, 0}, {}, {}}
	back := []task{{}, {}, {0, 2, 2, 2}, {1, 3, 1, 1}, {}}
	for k := range forth {
		c.at = k - 1
		c.stage = api.Going
		if task := c.currentTask(); task != forth[k] {
			t.Errorf("forth at %d: %+v", c.at, task)
		}
		c.stage = api.Back
		if task := c.currentTask(); task != back[k] {
			t.Errorf("back at %d: %+v", c.at, task)
		}
	}
}

// An answer counts from the number behind the base on, for the instance that it comes from.
func TestBase(t *testing.T) {
	c := controller{tasks: []task{{size: 2}, {size: 1}}, stage: api.Going, number: 5, rest: 3}
	c.begin()
	for _, number := range []int{-1, 0, 4, 5} {
		c.hear(api.Message{Number: number}, 9)
	}
	if c.firstToAnswer(2) != 0 {
		t.Errorf("an answer up to the base counts: %+v", c)
	}
	c.hear(api.Message{Number: 6, Instance: 1}, 9)
	if !c.works || c.firstToAnswer(2) != 0 {
		t.Errorf("the answer of the second counts for the first: %+v", c)
	}
	c.hear(api.Message{Number: 6}, 9)
	if c.works || c.at != 1 || c.until != 12 || c.stage != api.Going {
		t.Errorf("both have answered: %+v", c)
	}
}
