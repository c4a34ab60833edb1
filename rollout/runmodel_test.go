package rollout_test

import (
	"fmt"
	"math/rand"
	"reflect"
	"strings"
	"testing"

	"rollout/api"
	"rollout/rollout"
)

// modelRun is a run by the words of the document.
type modelRun struct {
	f                  api.Fleet
	moves              []api.Move
	state              api.State
	until, base        int
	answered           map[int]bool
	releases, highests map[[2]int]int // by service and instance
	list               []api.Message
	written            []modelRecord // all that ever were
	aborted            bool
}

type modelRecord struct {
	topic, schema, time int
	text                string
}

func newModelRun(f api.Fleet, moves []api.Move) *modelRun {
	m := &modelRun{f: f, moves: moves, releases: map[[2]int]int{}, highests: map[[2]int]int{}}
	m.state.Stage = api.Going
	if len(moves) == 0 {
		m.state.Stage = api.Arrived
	}
	for s, service := range f.Services {
		for instance := 0; instance < service.Size; instance++ {
			m.releases[[2]int{s, instance}] = service.Now
		}
	}
	return m
}

func (m *modelRun) rest() int {
	rest := 0
	for _, topic := range m.f.Topics {
		rest = max(rest, topic.Keep)
	}
	return rest
}

func (m *modelRun) over() bool {
	return m.state.Stage == api.Arrived || m.state.Stage == api.Returned
}

// next tells the service of the next move to work at, and the release that its instances are to have.
func (m *modelRun) next() (int, int) {
	if m.state.Stage == api.Going {
		return m.moves[m.state.At].Service, m.moves[m.state.At].To
	}
	ahead := m.state.At - 1
	service := m.moves[ahead].Service
	return service, modelAfter(m.f, m.moves[:ahead]).has[service]
}

func (m *modelRun) beginToWork() {
	m.state.Works, m.base, m.answered = true, m.state.Number, map[int]bool{}
}

func (m *modelRun) tick() {
	m.state.Time++
	if m.state.Paused || m.over() {
		return
	}
	if !m.state.Works && m.until <= m.state.Time {
		m.beginToWork()
	}
	if !m.state.Works {
		return
	}
	instance := 0
	for m.answered[instance] {
		instance++
	}
	m.state.Number++
	service, release := m.next()
	if len(m.list) < 40 {
		m.list = append(m.list, command(m.state.Number, service, instance, release))
	}
}

func (m *modelRun) remove(k int) {
	m.list = append(append([]api.Message{}, m.list[:k]...), m.list[k+1:]...)
}

func (m *modelRun) deliver(k int) api.Errno {
	if k < 0 || k >= len(m.list) {
		return api.ErrArg
	}
	message := m.list[k]
	m.remove(k)
	if message.Kind == api.Command {
		at := [2]int{message.Service, message.Instance}
		if message.Number >= m.highests[at] {
			m.highests[at], m.releases[at] = message.Number, message.Release
			message.Kind = api.Answer
			m.list = append(m.list, message)
		}
		return api.OK
	}
	if m.state.Works && message.Number > m.base {
		m.answered[message.Instance] = true
		service, _ := m.next()
		if len(m.answered) == m.f.Services[service].Size {
			m.moveIsDone()
		}
	}
	return api.OK
}

func (m *modelRun) moveIsDone() {
	m.state.Works = false
	m.until = m.state.Time + m.rest()
	if m.state.Stage == api.Going {
		m.state.At++
		if m.state.At == len(m.moves) {
			m.state.Stage = api.Arrived
		}
		return
	}
	m.state.At--
	if m.state.At == 0 {
		m.state.Stage = api.Returned
	}
}

func (m *modelRun) abort() api.Errno {
	if m.over() {
		return api.ErrOver
	}
	if m.state.Stage == api.Back {
		return api.ErrBack
	}
	m.aborted = true
	m.state.Stage = api.Back
	if m.state.Works {
		m.state.At++
		m.beginToWork()
	} else if m.state.At == 0 {
		m.state.Stage = api.Returned
	}
	return api.OK
}

func (m *modelRun) pause(on bool) api.Errno {
	if m.over() {
		return api.ErrOver
	}
	m.state.Paused = on
	return api.OK
}

func (m *modelRun) crash() {
	if m.over() {
		return
	}
	if m.state.Works {
		m.beginToWork()
	} else {
		m.until = m.state.Time + m.rest()
	}
}

func (m *modelRun) drop(k int) api.Errno {
	if k < 0 || k >= len(m.list) {
		return api.ErrArg
	}
	m.remove(k)
	return api.OK
}

func (m *modelRun) double(k int) api.Errno {
	if k < 0 || k >= len(m.list) {
		return api.ErrArg
	}
	if len(m.list) == 40 {
		return api.ErrFull
	}
	m.list = append(m.list, m.list[k])
	return api.OK
}

// records tells those that are in a topic.
func (m *modelRun) records(topic int) []modelRecord {
	var records []modelRecord
	for _, record := range m.written {
		keep := m.f.Topics[record.topic].Keep
		if record.topic == topic && (keep == 0 || m.state.Time-record.time < keep) {
			records = append(records, record)
		}
	}
	return records
}

// pin tells how an instance uses a topic.
func (m *modelRun) pin(s int, instance int, topic int) (api.Pin, api.Errno) {
	release, found := m.releases[[2]int{s, instance}]
	if !found || topic < 0 || topic >= len(m.f.Topics) {
		return api.Pin{}, api.ErrArg
	}
	for _, pin := range m.f.Services[s].Releases[release].Pins {
		if pin.Topic == topic {
			return pin, api.OK
		}
	}
	return api.Pin{Writes: -1, Reads: -1}, api.OK
}

func (m *modelRun) produce(s int, instance int, topic int, text string) api.Errno {
	pin, errno := m.pin(s, instance, topic)
	if errno != api.OK {
		return errno
	}
	if pin.Writes == -1 {
		return api.ErrPin
	}
	if _, errno := rollout.Encode(m.f.Schemas[pin.Writes], text); errno != api.OK {
		return errno
	}
	if len(m.records(topic)) == 12 {
		return api.ErrFull
	}
	m.written = append(m.written, modelRecord{topic, pin.Writes, m.state.Time, text})
	return api.OK
}

// view tells what stands in a topic; that each record can be read is for the test to see.
func (m *modelRun) view(s int, instance int, topic int) ([]string, api.Errno, bool) {
	pin, errno := m.pin(s, instance, topic)
	if errno == api.OK && pin.Reads == -1 {
		errno = api.ErrPin
	}
	if errno != api.OK {
		return nil, errno, true
	}
	var texts []string
	for _, record := range m.records(topic) {
		text, ok := modelRead(m.f.Schemas[record.schema], m.f.Schemas[pin.Reads], record.text)
		if !ok {
			return nil, api.OK, false
		}
		texts = append(texts, text)
	}
	return texts, api.OK, true
}

// twin is a run with its model, and what was done with them.
type twin struct {
	t     *testing.T
	x     *rollout.Run
	model *modelRun
	seen  map[string]int
	done  []string
}

// did notes what was done and what both answered, and fails the test unless they are alike in all that can be seen.
func (w *twin) did(what string, got api.Errno, want api.Errno) {
	w.t.Helper()
	w.done = append(w.done, what)
	w.seen[fmt.Sprintf("%s %d", strings.Fields(what)[0], want)]++
	if got != want {
		w.fail("answered %d, want %d", got, want)
	}
	if state := w.x.State(); state != w.model.state {
		w.fail("State() = %+v, want %+v", state, w.model.state)
	}
	pending := w.x.Pending()
	if len(pending) != len(w.model.list) || len(pending) > 0 && !reflect.DeepEqual(pending, w.model.list) {
		w.fail("Pending() = %+v, want %+v", pending, w.model.list)
	}
	for s := -1; s <= api.MaxServices; s++ {
		for instance := -1; instance <= api.MaxSize; instance++ {
			w.compareInstance(s, instance)
		}
	}
}

func (w *twin) compareInstance(s int, instance int) {
	w.t.Helper()
	want, found := w.model.releases[[2]int{s, instance}]
	release, errno := w.x.Release(s, instance)
	if release != want || (errno == api.OK) != found || errno != api.OK && errno != api.ErrArg {
		w.fail("Release(%d, %d) = %d, %d, want %d", s, instance, release, errno, want)
	}
	for topic := -1; topic <= len(w.model.f.Topics); topic++ {
		want, wantErrno, readable := w.model.view(s, instance, topic)
		if !readable {
			w.fail("a record in %d that instance %d of %d can't read", topic, instance, s)
		}
		texts, errno := w.x.View(s, instance, topic)
		if errno != wantErrno || len(texts) != len(want) || len(want) > 0 && !reflect.DeepEqual(texts, want) {
			w.fail("View(%d, %d, %d) = %q, %d, want %q, %d", s, instance, topic, texts, errno, want, wantErrno)
		}
		if len(want) > 0 {
			w.seen["read"]++
			w.seen[fmt.Sprint("read in stage ", w.model.state.Stage)]++
		}
	}
}

func (w *twin) fail(format string, parts ...any) {
	w.t.Helper()
	w.t.Fatalf("%+v, %v, %s: %s", w.model.f, w.model.moves, strings.Join(w.done, "; "), fmt.Sprintf(format, parts...))
}

func (w *twin) tick() {
	w.t.Helper()
	if len(w.model.list) == 40 && w.model.state.Works && !w.model.state.Paused {
		w.seen["lost"]++
	}
	w.x.Tick()
	w.model.tick()
	w.did("Tick", api.OK, api.OK)
}

func (w *twin) deliver(k int) {
	w.t.Helper()
	w.did(fmt.Sprint("Deliver ", k), w.x.Deliver(k), w.model.deliver(k))
}

func (w *twin) abort() {
	w.t.Helper()
	w.seen[fmt.Sprint("abort at work ", w.model.state.Works)]++
	w.did("Abort", w.x.Abort(), w.model.abort())
}

func (w *twin) pause(on bool) {
	w.t.Helper()
	w.did(fmt.Sprint("Pause ", on), w.x.Pause(on), w.model.pause(on))
}

func (w *twin) crash() {
	w.t.Helper()
	w.seen[fmt.Sprintf("crash in stage %d at work %t", w.model.state.Stage, w.model.state.Works)]++
	w.x.Crash()
	w.model.crash()
	w.did("Crash", api.OK, api.OK)
}

// step does something, with habits of which some lose much, some double much, some write much, some turn back, pause and crash.
func (w *twin) step(m maker, habits [8]int) {
	w.t.Helper()
	k := m.Intn(len(w.model.list)+2) - 1
	if len(w.model.list) > 0 && m.Intn(8) > 0 {
		k = m.Intn(len(w.model.list))
	}
	sum := 0
	for _, habit := range habits {
		sum += habit
	}
	n := m.Intn(sum)
	what := 0
	for ; n >= habits[what]; what++ {
		n -= habits[what]
	}
	switch what {
	case 0:
		w.tick()
	case 1:
		w.deliver(k)
	case 2:
		w.did(fmt.Sprint("Drop ", k), w.x.Drop(k), w.model.drop(k))
	case 3:
		w.did(fmt.Sprint("Copy ", k), w.x.Copy(k), w.model.double(k))
	case 4:
		w.produce(m)
	case 5:
		w.abort()
	case 6:
		w.pause(m.Intn(3) == 0)
	case 7:
		w.crash()
	}
}

// produce writes something, mostly what can be written.
func (w *twin) produce(m maker) {
	w.t.Helper()
	s, topic := m.Intn(len(w.model.f.Services)), m.Intn(len(w.model.f.Topics))
	instance := m.Intn(w.model.f.Services[s].Size)
	text := "5"
	if pin, _ := w.model.pin(s, instance, topic); pin.Writes >= 0 {
		// The defaults, which the maker of values does not know, stand at the end of a field's type.
		schema := strings.NewReplacer(`="-"`, "", "=a", "").Replace(w.model.f.Schemas[pin.Writes])
		text, _, _ = m.value(schema)
	}
	switch m.Intn(20) {
	case 0:
		s = m.Intn(5) - 1
	case 1:
		instance = m.Intn(5) - 1
	case 2:
		topic = m.Intn(6) - 1
	case 3:
		text = m.off(text)
	}
	what := fmt.Sprintf("Produce %d %d %d %s", s, instance, topic, text)
	w.did(what, w.x.Produce(s, instance, topic, text), w.model.produce(s, instance, topic, text))
}

// quiet makes quiet rounds until the run is over, and fails the test if they are too many or lead elsewhere.
func (w *twin) quiet() {
	w.t.Helper()
	if w.model.state.Paused {
		w.pause(false)
	}
	bound := (len(w.model.moves) + 1) * (api.MaxSize + api.MaxKeep)
	for rounds := 0; !w.model.over(); rounds++ {
		if rounds == bound {
			w.fail("after %d quiet rounds: %+v", rounds, w.model.state)
		}
		for len(w.model.list) > 0 {
			w.deliver(0)
		}
		w.tick()
	}
	stage, moves := api.Arrived, w.model.moves
	if w.model.aborted {
		stage, moves = api.Returned, nil
	}
	if w.model.state.Stage != stage {
		w.fail("it ends in stage %d, want %d", w.model.state.Stage, stage)
	}
	has := modelAfter(w.model.f, moves).has
	for at, release := range w.model.releases {
		if release != has[at[0]] {
			w.fail("%v has release %d, want %v", at, release, has)
		}
	}
}

// safeMoves makes a list of safe moves, with as many as there are up to a bound.
func (m maker) safeMoves(f api.Fleet, bound int) []api.Move {
	var moves []api.Move
	for len(moves) < bound {
		now := modelAfter(f, moves)
		var next []api.Move
		for s, service := range f.Services {
			for r := range service.Releases {
				move := api.Move{Service: s, To: r}
				if modelIsMove(f, now, move) && modelIsSafe(f, now, move) {
					next = append(next, move)
				}
			}
		}
		if len(next) == 0 {
			return moves
		}
		moves = append(moves, next[m.Intn(len(next))])
	}
	return moves
}

// habits tell how often a run ticks, delivers, drops, copies, writes, turns back, pauses and crashes.
var habits = [][8]int{
	{40, 80, 0, 0, 40, 0, 0, 0}, {40, 100, 10, 20, 40, 0, 0, 0}, {30, 30, 10, 10, 80, 0, 0, 0}, {60, 40, 20, 10, 20, 0, 0, 0}, {50, 30, 10, 60, 20, 0, 0, 0}, {60, 140, 10, 80, 30, 0, 0, 0},
	{40, 80, 0, 0, 40, 1, 0, 0}, {40, 100, 10, 20, 40, 2, 5, 5}, {30, 30, 10, 10, 80, 1, 2, 4}, {60, 40, 20, 10, 20, 3, 20, 1}, {50, 30, 10, 60, 20, 2, 2, 10}, {60, 140, 10, 80, 30, 2, 3, 2},
}

// twin makes a fleet with safe moves, mostly more than one, and a run of them with its model.
func (m maker) twin(t *testing.T, seen map[string]int) *twin {
	t.Helper()
	for {
		f := m.fleet()
		switch m.Intn(6) {
		// In these the records of one release can't be read by another one, so that much hangs on the rest.
		case 0:
			f = exampleFleet(1 + m.Intn(api.MaxKeep))
		case 1:
			f = roundabout(0, 1+m.Intn(2))
			f.Services[0].Size = 1 + m.Intn(api.MaxSize)
		}
		if !modelSound(f) {
			continue
		}
		moves := m.safeMoves(f, m.Intn(9))
		if len(moves) < 2 && m.Intn(10) > 0 {
			continue
		}
		// What is handed in is wrecked behind the call, so that the run can't hang on it.
		handedFleet, handedMoves := roomyFleet(f), roomy(moves, api.Move{Service: -5})
		before := print(handedFleet, handedMoves)
		x := begun(t, handedFleet, handedMoves)
		if after := print(handedFleet, handedMoves); after != before {
			t.Fatalf("%s became %s", before, after)
		}
		wreck(handedFleet, handedMoves)
		return &twin{t: t, x: x, model: newModelRun(f, moves), seen: seen}
	}
}

// P11 to P21: runs in which anything happens, and at each moment each instance can read each record.
func TestRunAsModel(t *testing.T) {
	m := maker{rand.New(rand.NewSource(11))}
	seen := map[string]int{}
	for runs := 0; runs < 600; runs++ {
		w := m.twin(t, seen)
		habit := habits[m.Intn(len(habits))]
		for steps := m.Intn(400); steps > 0; steps-- {
			w.step(m, habit)
		}
		seen[fmt.Sprint("stage ", w.model.state.Stage)]++
		seen["moved"] += w.model.state.At
		w.quiet()
	}
	for what, least := range map[string]int{
		"Tick 0": 5000, "lost": 500, "Deliver 0": 5000, "Deliver 11": 200, "Drop 0": 500, "Drop 11": 200, "Copy 0": 1000, "Copy 11": 200, "Copy 16": 500,
		"Produce 0": 1000, "Produce 3": 50, "Produce 11": 200, "Produce 15": 1000, "Produce 16": 100, "read": 20000, "stage 1": 50, "stage 3": 50, "moved": 300,
		"Abort 0": 100, "Abort 17": 50, "Abort 18": 20, "abort at work true": 50, "abort at work false": 50, "Pause 0": 200, "Pause 17": 100, "stage 2": 10, "stage 4": 50, "read in stage 2": 5000,
		"crash in stage 1 at work true": 50, "crash in stage 1 at work false": 50, "crash in stage 2 at work true": 20, "crash in stage 2 at work false": 20, "crash in stage 3 at work false": 20, "crash in stage 4 at work false": 20,
	} {
		if seen[what] < least {
			t.Errorf("%q came %d times, want %d", what, seen[what], least)
		}
	}
}

// P2: what is done with one run changes no other one, of the same fleet or of another.
func TestRunsApart(t *testing.T) {
	m := maker{rand.New(rand.NewSource(13))}
	for k := 0; k < 20; k++ {
		seen := map[string]int{}
		first, second := m.twin(t, seen), m.twin(t, seen)
		f, moves := first.model.f, first.model.moves
		third := &twin{t: t, x: begun(t, f, moves), model: newModelRun(f, moves), seen: seen}
		for steps := 0; steps < 200; steps++ {
			w := []*twin{first, second, third}[m.Intn(3)]
			w.step(m, habits[steps%len(habits)])
		}
		for _, w := range []*twin{first, third, second} {
			w.quiet()
		}
	}
}

// P2: whether a run is looked at or not makes no difference.
func TestRunUnseen(t *testing.T) {
	m := maker{rand.New(rand.NewSource(14))}
	for k := 0; k < 20; k++ {
		w := m.twin(t, map[string]int{})
		unseen := begun(t, w.model.f, w.model.moves)
		for steps := 0; steps < 150; steps++ {
			message := m.Intn(4)
			unseen.Tick()
			unseen.Deliver(message)
			unseen.Deliver(0)
			unseen.Produce(0, 0, 0, "5")
			w.tick()
			w.deliver(message)
			w.deliver(0)
			w.did("Produce 0 0 0 5", w.x.Produce(0, 0, 0, "5"), w.model.produce(0, 0, 0, "5"))
			switch m.Intn(60) {
			case 0:
				unseen.Abort()
				w.abort()
			case 1:
				unseen.Crash()
				w.crash()
			case 2, 3:
				on := m.Intn(2) == 0
				unseen.Pause(on)
				w.pause(on)
			}
		}
		w.x = unseen
		w.did("Look", api.OK, api.OK)
	}
}
