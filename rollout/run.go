package rollout

import (
	"rollout/api"
	"rollout/plays"
)

// Run is a list of moves that is worked off.
type Run struct {
	play plays.Play
}

// Start begins a run (P11).
func Start(f api.Fleet, moves []api.Move) (*Run, api.Errno) {
	safe, errno := Safe(f, moves)
	if errno != api.OK {
		return nil, errno
	}
	if safe < len(moves) {
		return nil, api.ErrUnsafe
	}
	return &Run{play: plays.Begin(f, moves)}, api.OK
}

// State tells how far it is (P12).
func (x *Run) State() api.State {
	return x.play.State()
}

// Release tells the release that an instance has (P12).
func (x *Run) Release(service int, instance int) (int, api.Errno) {
	release, found := x.play.Release(service, instance)
	if !found {
		return 0, api.ErrArg
	}
	return release, api.OK
}

// Pending tells the messages in the list (P12).
func (x *Run) Pending() []api.Message {
	return x.play.Pending()
}

// Tick lets a unit of time go by (P13).
func (x *Run) Tick() {
	x.play.Tick()
}

// Deliver lets a message arrive (P14).
func (x *Run) Deliver(k int) api.Errno {
	message, found := x.play.Take(k)
	if !found {
		return api.ErrArg
	}
	x.play.Arrive(message)
	return api.OK
}

// Drop loses a message (P15).
func (x *Run) Drop(k int) api.Errno {
	_, found := x.play.Take(k)
	if !found {
		return api.ErrArg
	}
	return api.OK
}

// Copy doubles a message (P15).
func (x *Run) Copy(k int) api.Errno {
	message, found := x.play.Message(k)
	if !found {
		return api.ErrArg
	}
	sent := x.play.Send(message)
	if !sent {
		return api.ErrFull
	}
	return api.OK
}

// Produce writes a record into a topic (P16).
func (x *Run) Produce(service int, instance int, topic int, text string) api.Errno {
	if !x.has(service, instance, topic) {
		return api.ErrArg
	}
	schema, writes := x.play.Writes(service, instance, topic)
	if !writes {
		return api.ErrPin
	}
	data, errno := Encode(schema, text)
	if errno != api.OK {
		return errno
	}
	written := x.play.Write(topic, schema, data)
	if !written {
		return api.ErrFull
	}
	return api.OK
}

// View reads the records of a topic (P17).
func (x *Run) View(service int, instance int, topic int) ([]string, api.Errno) {
	if !x.has(service, instance, topic) {
		return nil, api.ErrArg
	}
	schema, reads := x.play.Reads(service, instance, topic)
	if !reads {
		return nil, api.ErrPin
	}
	texts := []string{}
	for _, record := range x.play.Records(topic) {
		// Safe moves, the rest and the numbers see to it that there is no error here.
		text, _ := Read(record.Schema, schema, record.Data)
		texts = append(texts, text)
	}
	return texts, api.OK
}

// has tells whether there is such a service, such an instance of it, and such a topic.
func (x *Run) has(service int, instance int, topic int) bool {
	return x.play.HasInstance(service, instance) && x.play.HasTopic(topic)
}

// Abort turns back (P18).
func (x *Run) Abort() api.Errno {
	if x.play.IsOver() {
		return api.ErrOver
	}
	if x.play.IsBack() {
		return api.ErrBack
	}
	x.play.TurnBack()
	return api.OK
}

// Pause holds the controller, or lets it go on (P19).
func (x *Run) Pause(on bool) api.Errno {
	if x.play.IsOver() {
		return api.ErrOver
	}
	x.play.Pause(on)
	return api.OK
}

// Crash lets the controller lose what it has not written down (P20).
func (x *Run) Crash() {
	x.play.Crash()
}
