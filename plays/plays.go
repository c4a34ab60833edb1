// Package plays: how safe moves of a fleet are worked off, instance by instance, over a network that loses, doubles and delays.
package plays

import (
	"rollout/api"
	"rollout/fleets"
)

// Play is a fleet on its way, with the messages and the records in it.
type Play struct {
	time       int
	controller controller
	messages   []api.Message
	services   []service
	topics     []topic
	schemas    []string
}

// service is what a play needs of one.
type service struct {
	instances []instance
	releases  [][]api.Pin
}

// instance has the release, and the number, of the last command that it followed.
type instance struct {
	release, highest int
}

// Begin answers the play, at the time 0, of safe moves of a fleet that is in order. It keeps nothing of what is handed in.
func Begin(f api.Fleet, moves []api.Move) Play {
	p := Play{controller: controllerOf(f, moves)}
	for _, s := range f.Services {
		p.services = append(p.services, serviceOf(s))
	}
	for _, t := range f.Topics {
		p.topics = append(p.topics, topic{keep: t.Keep})
	}
	for _, text := range f.Schemas {
		// By way of bytes, so that the text is no part of a longer one that is the caller's.
		p.schemas = append(p.schemas, string([]byte(text)))
	}
	return p
}

func serviceOf(given api.Service) service {
	var made service
	for k := 0; k < given.Size && k < api.MaxSize; k++ {
		made.instances = append(made.instances, instance{release: given.Now})
	}
	for _, release := range given.Releases {
		pins := []api.Pin{}
		for _, pin := range release.Pins {
			pins = append(pins, pin)
		}
		made.releases = append(made.releases, pins)
	}
	return made
}

// State tells how far the play is.
func (p *Play) State() api.State {
	c := p.controller
	return api.State{Stage: c.stage, At: c.at, Time: p.time, Number: c.number, Works: c.works, Paused: c.paused}
}

// IsOver tells whether the controller has arrived or returned.
func (p *Play) IsOver() bool {
	return p.controller.isOver()
}

// IsBack tells whether the controller is on its way back.
func (p *Play) IsBack() bool {
	return p.controller.stage == api.Back
}

// TurnBack takes the controller from its way forth to its way back.
func (p *Play) TurnBack() {
	p.controller.turnBack()
}

// Pause holds the controller, or lets it go on.
func (p *Play) Pause(on bool) {
	p.controller.paused = on
}

// Crash lets the controller lose what it has not written down.
func (p *Play) Crash() {
	p.controller.crash(p.time)
}

// Tick lets a unit of time go by.
func (p *Play) Tick() {
	p.time++
	for k := range p.topics {
		p.topics[k].forget(p.time)
	}
	command, sent := p.controller.act(p.time)
	if sent {
		// If there is no room for it, it is lost, as others are on their way.
		p.Send(command)
	}
}

// HasInstance tells whether there is such a service, and such an instance of it.
func (p *Play) HasInstance(service int, instance int) bool {
	return fleets.IsNumber(service, len(p.services)) && fleets.IsNumber(instance, len(p.services[service].instances))
}

// Release answers the release that an instance has; false, if there is no such instance.
func (p *Play) Release(service int, instance int) (int, bool) {
	if !p.HasInstance(service, instance) {
		return 0, false
	}
	return p.services[service].instances[instance].release, true
}

// Writes answers the schema by which an instance writes a topic; false, if it does not.
func (p *Play) Writes(service int, instance int, topic int) (string, bool) {
	pin := p.pin(service, instance, topic)
	return p.schema(pin.Writes)
}

// Reads answers the schema as which an instance reads a topic; false, if it does not.
func (p *Play) Reads(service int, instance int, topic int) (string, bool) {
	pin := p.pin(service, instance, topic)
	return p.schema(pin.Reads)
}

// pin answers the pin for a topic of the release that an instance has: without one, it neither writes nor reads.
func (p *Play) pin(service int, instance int, topic int) api.Pin {
	none := api.Pin{Topic: topic, Writes: -1, Reads: -1}
	release, found := p.Release(service, instance)
	if !found || !fleets.IsNumber(release, len(p.services[service].releases)) {
		return none
	}
	for _, pin := range p.services[service].releases[release] {
		if pin.Topic == topic {
			return pin
		}
	}
	return none
}

// schema answers the text of a schema; false, if no schema has the number, as none has -1.
func (p *Play) schema(number int) (string, bool) {
	if !fleets.IsNumber(number, len(p.schemas)) {
		return "", false
	}
	return p.schemas[number], true
}
