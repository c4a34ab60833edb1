package plays

import (
	"math"
	"testing"

	"rollout/api"
)

// A play is asked for only of fleets in order, with moves that are some, but any other does no harm.
func TestNoOrder(t *testing.T) {
	numbers := []int{math.MinInt, -1, 0, 1, 3, math.MaxInt}
	for _, n := range numbers {
		wild := api.Pin{Topic: n, Writes: n, Reads: n}
		service := api.Service{Size: math.MaxInt, Now: n, Want: n, Releases: []api.Release{{Pins: []api.Pin{wild}}}}
		f := api.Fleet{Schemas: []string{"??"}, Topics: []api.Topic{{Keep: n}}, Services: []api.Service{service, {Size: n}}}
		for _, moves := range [][]api.Move{{{Service: n, To: n}, {Service: 0, To: n}}, {{Service: 1, To: n}}} {
			p := Begin(f, moves)
			for k := 0; k < 50; k++ {
				p.Tick()
				message, found := p.Take(0)
				if found {
					p.Arrive(message)
				}
			}
			for _, topic := range numbers {
				p.Write(topic, "i", "")
				p.Writes(0, 0, topic)
				p.Reads(1, n, topic)
				p.Records(topic)
			}
		}
	}
}

// A play has no messages but its own, but any other, to instances that there are not, does nothing.
func TestStrayMessages(t *testing.T) {
	f := api.Fleet{Services: []api.Service{{Size: 1, Releases: make([]api.Release, 2)}}}
	p := Begin(f, []api.Move{{Service: 0, To: 1}})
	p.Tick()
	before := p.State()
	for _, n := range []int{math.MinInt, -1, 1, 3, math.MaxInt} {
		for _, kind := range []int{api.Command, api.Answer} {
			p.Arrive(api.Message{Kind: kind, Number: math.MaxInt, Instance: n})
		}
		p.Arrive(api.Message{Kind: api.Command, Number: math.MaxInt, Service: n})
	}
	release, _ := p.Release(0, 0)
	if p.State() != before || release != 0 || len(p.Pending()) != 1 {
		t.Errorf("%+v, release %d, %+v", p.State(), release, p.Pending())
	}
}

// An answer counts from the number behind the base on, for the instance that it comes from.
func TestBase(t *testing.T) {
	c := controller{tasks: []task{{size: 2}, {size: 1}}, stage: api.Going, number: 5, rest: 3}
	c.begin()
	for _, number := range []int{-1, 0, 4, 5} {
		c.hear(api.Message{Number: number}, 9)
	}
	if c.firstToAnswer(2) != 0 {
		t.Errorf("an answer up to the base counts: %+v", c)
	}
	c.hear(api.Message{Number: 6, Instance: 1}, 9)
	if !c.works || c.firstToAnswer(2) != 0 {
		t.Errorf("the answer of the second counts for the first: %+v", c)
	}
	c.hear(api.Message{Number: 6}, 9)
	if c.works || c.at != 1 || c.until != 12 || c.stage != api.Going {
		t.Errorf("both have answered: %+v", c)
	}
}
