package plays

import (
	"rollout/api"
	"rollout/fleets"
)

// Pending answers the messages in the list, as a list that is the caller's.
func (p *Play) Pending() []api.Message {
	messages := []api.Message{}
	for _, message := range p.messages {
		messages = append(messages, message)
	}
	return messages
}

// Message answers a message in the list; false, if there is no such one.
func (p *Play) Message(k int) (api.Message, bool) {
	if !fleets.IsNumber(k, len(p.messages)) {
		return api.Message{}, false
	}
	return p.messages[k], true
}

// Send lets a message join the list at its end; false, if there is no room for it.
func (p *Play) Send(message api.Message) bool {
	if len(p.messages) >= api.MaxMessages {
		return false
	}
	p.messages = append(p.messages, message)
	return true
}

// Take takes a message out of the list; false, if there is no such one.
func (p *Play) Take(k int) (api.Message, bool) {
	taken, found := p.Message(k)
	if !found {
		return api.Message{}, false
	}
	left := []api.Message{}
	for other, message := range p.messages {
		if other != k {
			left = append(left, message)
		}
	}
	p.messages = left
	return taken, true
}

// Arrive lets a message that was taken out of the list come to its instance, or to the controller.
func (p *Play) Arrive(message api.Message) {
	if message.Kind == api.Answer {
		p.controller.hear(message, p.time)
		return
	}
	followed := p.follow(message)
	if followed {
		message.Kind = api.Answer
		p.Send(message)
	}
}

// follow lets an instance follow a command; false, if a later one came to it before.
func (p *Play) follow(command api.Message) bool {
	if !p.HasInstance(command.Service, command.Instance) {
		return false
	}
	if command.Number < p.services[command.Service].instances[command.Instance].highest {
		return false
	}
	p.services[command.Service].instances[command.Instance] = instance{release: command.Release, highest: command.Number}
	return true
}
