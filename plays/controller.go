package plays

import (
	"rollout/api"
	"rollout/fleets"
)

// controller works off the moves, one behind the other, or undoes them, the last one first.
type controller struct {
	tasks    []task // one for each move
	rest     int    // how long it waits behind a move
	stage    int
	at       int // how many moves are done; on the way back, how many are still to be undone
	works    bool
	paused   bool
	until    int // while it does not work: the time until which it waits
	number   int // the last that it has given out
	base     int // the last that it had given out when it began to work
	answered [api.MaxSize]bool
}

// task is what a move asks for: all instances of a service are to have a release, or on the way back the one from before.
type task struct {
	service, size, before, release int
}

func controllerOf(f api.Fleet, moves []api.Move) controller {
	c := controller{tasks: tasksOf(f.Services, moves), stage: api.Going, rest: restOf(f.Topics)}
	c.stopAtEnd()
	return c
}

func tasksOf(services []api.Service, moves []api.Move) []task {
	// For each service its last task so far, as if one had led it to the release that it has at first.
	last := []task{}
	for s, service := range services {
		last = append(last, task{service: s, size: service.Size, release: service.Now})
	}
	tasks := []task{}
	for _, move := range moves {
		if fleets.IsNumber(move.Service, len(last)) {
			next := last[move.Service]
			next.before = next.release
			next.release = move.To
			last[move.Service] = next
			tasks = append(tasks, next)
		}
	}
	return tasks
}

// restOf answers how long it takes until no record is left that a release wrote which no instance has any more, but for those that stay for ever.
func restOf(topics []api.Topic) int {
	rest := 0
	for _, topic := range topics {
		if topic.Keep > rest {
			rest = topic.Keep
		}
	}
	return rest
}

func (c *controller) stopAtEnd() {
	if c.stage == api.Going && c.at >= len(c.tasks) {
		c.stage = api.Arrived
	}
	if c.stage == api.Back && c.at <= 0 {
		c.stage = api.Returned
	}
}

// isOver tells whether it has arrived or returned.
func (c *controller) isOver() bool {
	return c.stage == api.Arrived || c.stage == api.Returned
}

// act does what there is to do at a tick to a time. It answers the command that it sends; false, if it sends none.
func (c *controller) act(time int) (api.Message, bool) {
	if c.paused || c.isOver() {
		return api.Message{}, false
	}
	if !c.works && c.until <= time {
		c.begin()
	}
	if !c.works {
		return api.Message{}, false
	}
	return c.command()
}

// begin begins to work: what was sent before does not count any more.
func (c *controller) begin() {
	c.works = true
	c.base = c.number
	c.answered = [api.MaxSize]bool{}
}

// currentTask answers the one to work at, with the release that the way leads to; one without instances, if there is none.
func (c *controller) currentTask() task {
	number := c.at
	if c.stage == api.Back {
		number--
	}
	if !fleets.IsNumber(number, len(c.tasks)) {
		return task{}
	}
	current := c.tasks[number]
	if c.stage == api.Back {
		current.release = current.before
	}
	return current
}

// command gives out the next number, in a command to the first instance that has not answered.
func (c *controller) command() (api.Message, bool) {
	task := c.currentTask()
	instance := c.firstToAnswer(task.size)
	if instance >= task.size {
		return api.Message{}, false
	}
	c.number++
	return api.Message{Kind: api.Command, Number: c.number, Service: task.service, Instance: instance, Release: task.release}, true
}

// firstToAnswer answers the first of so many instances that has not answered; their number, if all have.
func (c *controller) firstToAnswer(size int) int {
	for instance, answered := range c.answered {
		if instance < size && !answered {
			return instance
		}
	}
	return size
}

// hear takes an answer that arrives at a time. One above the base is to a command of the present move, and so comes from its service.
func (c *controller) hear(answer api.Message, time int) {
	if !c.works || answer.Number <= c.base || !fleets.IsNumber(answer.Instance, api.MaxSize) {
		return
	}
	c.answered[answer.Instance] = true
	task := c.currentTask()
	if c.firstToAnswer(task.size) == task.size {
		c.finish(time)
	}
}

// finish ends the work at a move, when at a time all instances have the release.
func (c *controller) finish(time int) {
	c.works = false
	if c.stage == api.Back {
		c.at--
	} else {
		c.at++
	}
	c.until = time + c.rest
	c.stopAtEnd()
}

// turnBack takes it from its way forth to its way back.
func (c *controller) turnBack() {
	c.stage = api.Back
	if c.works {
		// Some instances may have the release already, so that this move is to be undone, too.
		c.at++
		c.begin()
	}
	c.stopAtEnd()
}

// crash loses, at a time, which instances have answered, or how much of the rest is over.
func (c *controller) crash(time int) {
	if c.isOver() {
		return
	}
	if c.works {
		c.begin()
		return
	}
	c.until = time + c.rest
}
