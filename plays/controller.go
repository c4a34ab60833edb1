package plays

import (
	"rollout/api"
	"rollout/fleets"
)

// controller works off the moves, one behind the other.
type controller struct {
	tasks    []task // one for each move
	rest     int    // how long it waits behind a move
	stage    int
	at       int // how many moves are done
	works    bool
	until    int // while it does not work: the time until which it waits
	number   int // the last that it has given out
	base     int // the last that it had given out when it began to work
	answered [api.MaxSize]bool
}

// task is what a move asks for: all instances of a service are to have a release.
type task struct {
	service, size, release int
}

func controllerOf(f api.Fleet, moves []api.Move) controller {
	c := controller{stage: api.Going, rest: restOf(f.Topics)}
	for _, move := range moves {
		if fleets.IsNumber(move.Service, len(f.Services)) {
			size := f.Services[move.Service].Size
			c.tasks = append(c.tasks, task{service: move.Service, size: size, release: move.To})
		}
	}
	c.stopAtEnd()
	return c
}

// restOf answers how long it takes until no record is left that a release wrote which no instance has any more, but for those that stay for ever.
func restOf(topics []api.Topic) int {
	rest := 0
	for _, topic := range topics {
		if topic.Keep > rest {
			rest = topic.Keep
		}
	}
	return rest
}

func (c *controller) stopAtEnd() {
	if c.at >= len(c.tasks) {
		c.stage = api.Arrived
	}
}

// act does what there is to do at a tick to a time. It answers the command that it sends; false, if it sends none.
func (c *controller) act(time int) (api.Message, bool) {
	if c.stage != api.Going {
		return api.Message{}, false
	}
	if !c.works && c.until <= time {
		c.begin()
	}
	if !c.works {
		return api.Message{}, false
	}
	return c.command()
}

// begin begins to work: what was sent before does not count any more.
func (c *controller) begin() {
	c.works = true
	c.base = c.number
	c.answered = [api.MaxSize]bool{}
}

// currentTask answers the one to work at; one without instances, if there is none.
func (c *controller) currentTask() task {
	if !fleets.IsNumber(c.at, len(c.tasks)) {
		return task{}
	}
	return c.tasks[c.at]
}

// command gives out the next number, in a command to the first instance that has not answered.
func (c *controller) command() (api.Message, bool) {
	task := c.currentTask()
	instance := c.firstToAnswer(task.size)
	if instance >= task.size {
		return api.Message{}, false
	}
	c.number++
	return api.Message{Kind: api.Command, Number: c.number, Service: task.service, Instance: instance, Release: task.release}, true
}

// firstToAnswer answers the first of so many instances that has not answered; their number, if all have.
func (c *controller) firstToAnswer(size int) int {
	for instance, answered := range c.answered {
		if instance < size && !answered {
			return instance
		}
	}
	return size
}

// hear takes an answer that arrives at a time. One above the base is to a command of the present move, and so comes from its service.
func (c *controller) hear(answer api.Message, time int) {
	if !c.works || answer.Number <= c.base || !fleets.IsNumber(answer.Instance, api.MaxSize) {
		return
	}
	c.answered[answer.Instance] = true
	task := c.currentTask()
	if c.firstToAnswer(task.size) < task.size {
		return
	}
	c.works = false
	c.at++
	c.until = time + c.rest
	c.stopAtEnd()
}
