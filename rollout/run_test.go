package rollout_test

import (
	"math"
	"reflect"
	"strings"
	"testing"

	"rollout/api"
	"rollout/rollout"
)

// begun starts a run.
func begun(t *testing.T, f api.Fleet, moves []api.Move) *rollout.Run {
	t.Helper()
	x, errno := rollout.Start(f, moves)
	if x == nil || errno != api.OK {
		t.Fatalf("Start(%+v, %v) = %v, %d", f, moves, x, errno)
	}
	return x
}

// exampleRun is that of example 9.
func exampleRun(t *testing.T) *rollout.Run {
	t.Helper()
	return begun(t, exampleFleet(2), list([2]int{1, 1}, [2]int{0, 1}))
}

func command(number int, service int, instance int, release int) api.Message {
	return api.Message{Kind: api.Command, Number: number, Service: service, Instance: instance, Release: release}
}

func answer(number int, service int, instance int, release int) api.Message {
	return api.Message{Kind: api.Answer, Number: number, Service: service, Instance: instance, Release: release}
}

func wantState(t *testing.T, x *rollout.Run, want api.State) {
	t.Helper()
	if state := x.State(); state != want {
		t.Fatalf("State() = %+v, want %+v", state, want)
	}
}

func wantPending(t *testing.T, x *rollout.Run, want ...api.Message) {
	t.Helper()
	pending := x.Pending()
	if len(pending) != len(want) || len(want) > 0 && !reflect.DeepEqual(pending, want) {
		t.Fatalf("Pending() = %+v, want %+v", pending, want)
	}
}

func wantRelease(t *testing.T, x *rollout.Run, service int, instance int, want int) {
	t.Helper()
	if release, errno := x.Release(service, instance); release != want || errno != api.OK {
		t.Fatalf("Release(%d, %d) = %d, %d, want %d", service, instance, release, errno, want)
	}
}

func wantView(t *testing.T, x *rollout.Run, service int, instance int, topic int, want ...string) {
	t.Helper()
	texts, errno := x.View(service, instance, topic)
	if errno != api.OK || len(texts) != len(want) || len(want) > 0 && !reflect.DeepEqual(texts, want) {
		t.Fatalf("View(%d, %d, %d) = %q, %d, want %q", service, instance, topic, texts, errno, want)
	}
}

func wantNoView(t *testing.T, x *rollout.Run, service int, instance int, topic int, want api.Errno) {
	t.Helper()
	if texts, errno := x.View(service, instance, topic); texts != nil || errno != want {
		t.Fatalf("View(%d, %d, %d) = %q, %d, want %d", service, instance, topic, texts, errno, want)
	}
}

func wantProduce(t *testing.T, x *rollout.Run, service int, instance int, topic int, text string, want api.Errno) {
	t.Helper()
	if errno := x.Produce(service, instance, topic, text); errno != want {
		t.Fatalf("Produce(%d, %d, %d, %.40q) = %d, want %d", service, instance, topic, text, errno, want)
	}
}

// deliver delivers messages, one behind the other.
func deliver(t *testing.T, x *rollout.Run, ks ...int) {
	t.Helper()
	for _, k := range ks {
		if errno := x.Deliver(k); errno != api.OK {
			t.Fatalf("Deliver(%d) = %d", k, errno)
		}
	}
}

func drop(t *testing.T, x *rollout.Run, k int) {
	t.Helper()
	if errno := x.Drop(k); errno != api.OK {
		t.Fatalf("Drop(%d) = %d", k, errno)
	}
}

func double(t *testing.T, x *rollout.Run, k int) {
	t.Helper()
	if errno := x.Copy(k); errno != api.OK {
		t.Fatalf("Copy(%d) = %d", k, errno)
	}
}

func ticks(x *rollout.Run, n int) {
	for ; n > 0; n-- {
		x.Tick()
	}
}

// quiet makes a quiet round.
func quiet(t *testing.T, x *rollout.Run) {
	t.Helper()
	for len(x.Pending()) > 0 {
		deliver(t, x, 0)
	}
	x.Tick()
}

// P11 to P14, example 9.
func TestRunExample(t *testing.T) {
	x := exampleRun(t)
	wantState(t, x, api.State{Stage: api.Going})
	wantPending(t, x)
	x.Tick()
	wantState(t, x, api.State{Stage: api.Going, Time: 1, Number: 1, Works: true})
	wantPending(t, x, command(1, 1, 0, 1))
	x.Tick()
	wantPending(t, x, command(1, 1, 0, 1), command(2, 1, 0, 1))
	deliver(t, x, 0)
	wantRelease(t, x, 1, 0, 1)
	wantPending(t, x, command(2, 1, 0, 1), answer(1, 1, 0, 1))
	deliver(t, x, 1, 0)
	wantPending(t, x, answer(2, 1, 0, 1))
	x.Tick()
	wantPending(t, x, answer(2, 1, 0, 1), command(3, 1, 1, 1))
	wantRelease(t, x, 1, 1, 0)
	deliver(t, x, 1)
	wantRelease(t, x, 1, 1, 1)
	wantPending(t, x, answer(2, 1, 0, 1), answer(3, 1, 1, 1))
	wantState(t, x, api.State{Stage: api.Going, Time: 3, Number: 3, Works: true})
	deliver(t, x, 1)
	wantState(t, x, api.State{Stage: api.Going, At: 1, Time: 3, Number: 3})
	x.Tick()
	wantState(t, x, api.State{Stage: api.Going, At: 1, Time: 4, Number: 3})
	wantPending(t, x, answer(2, 1, 0, 1))
	x.Tick()
	wantState(t, x, api.State{Stage: api.Going, At: 1, Time: 5, Number: 4, Works: true})
	wantPending(t, x, answer(2, 1, 0, 1), command(4, 0, 0, 1))
	deliver(t, x, 1, 1)
	wantState(t, x, api.State{Stage: api.Arrived, At: 2, Time: 5, Number: 4})
	wantRelease(t, x, 0, 0, 1)
}

// P16, P17, example 10.
func TestRecordExample(t *testing.T) {
	x := exampleRun(t)
	x.Tick()
	wantProduce(t, x, 0, 0, 0, "{a:5}", api.OK)
	wantView(t, x, 1, 0, 0, "{a:5}")
	deliver(t, x, 0)
	wantView(t, x, 1, 0, 0, `{a:5,b:"-"}`)
	wantView(t, x, 1, 1, 0, "{a:5}")
	x.Tick()
	wantView(t, x, 1, 0, 0, `{a:5,b:"-"}`)
	x.Tick()
	wantView(t, x, 1, 0, 0)
	wantView(t, x, 1, 1, 0)
}

// P11: which error goes ahead of which.
func TestStartErrors(t *testing.T) {
	unsafe := list([2]int{0, 1}, [2]int{1, 1})
	none := list([2]int{0, 1}, [2]int{0, 1})
	unsound := turned(exampleFleet(2), func(f *api.Fleet) { f.Services[1].Now, f.Services[0].Now = 0, 1 })
	for _, c := range []struct {
		f     api.Fleet
		moves []api.Move
		want  api.Errno
	}{
		{exampleFleet(7), unsafe, api.ErrFleet},
		{exampleFleet(-1), none, api.ErrFleet},
		{exampleFleet(2), none, api.ErrMoves},
		{exampleFleet(2), make([]api.Move, api.MaxMoves+1), api.ErrMoves},
		{unsound, list([2]int{0, 1}), api.ErrMoves},
		{unsound, nil, api.ErrStart},
		{unsound, list([2]int{1, 1}), api.ErrStart},
		{exampleFleet(2), unsafe, api.ErrUnsafe},
		{exampleFleet(2), list([2]int{1, 1}, [2]int{0, 1}, [2]int{1, 0}), api.ErrUnsafe},
		{exampleFleet(0), list([2]int{1, 1}, [2]int{0, 1}), api.ErrUnsafe},
	} {
		if x, errno := rollout.Start(c.f, c.moves); x != nil || errno != c.want {
			t.Errorf("Start(%+v, %v) = %v, %d, want %d", c.f, c.moves, x, errno, c.want)
		}
	}
}

// P11: at the time 0 each instance has its service's Now, and there is neither a message nor a record.
func TestStart(t *testing.T) {
	f := free([]int{3, 3, 2}, []int{2, 0, 1}, []int{0, 1, 0})
	for s := range f.Services {
		f.Services[s].Size = s + 1
	}
	x := begun(t, f, list([2]int{1, 2}))
	wantState(t, x, api.State{Stage: api.Going})
	wantPending(t, x)
	for s, now := range []int{2, 0, 1} {
		for instance := 0; instance <= s; instance++ {
			wantRelease(t, x, s, instance, now)
			wantView(t, x, s, instance, 0)
		}
	}
	begun(t, fullFleet(), nil)
}

// P11, P13: with no moves it has arrived at once, and only the time goes on.
func TestStartWithoutMoves(t *testing.T) {
	for _, moves := range [][]api.Move{nil, {}} {
		x := begun(t, exampleFleet(2), moves)
		wantState(t, x, api.State{Stage: api.Arrived})
		ticks(x, 20)
		wantState(t, x, api.State{Stage: api.Arrived, Time: 20})
		wantPending(t, x)
		wantRelease(t, x, 1, 1, 0)
	}
	x := begun(t, api.Fleet{Services: []api.Service{service(0, release())}}, nil)
	wantState(t, x, api.State{Stage: api.Arrived})
}

// P12, P16, P17: services, instances and topics that there are not, ahead of all other errors.
func TestRunNumbers(t *testing.T) {
	f := exampleFleet(2)
	f.Services[0].Size = 3
	x := begun(t, f, nil)
	wantNone := func(service int, instance int, topic int) {
		t.Helper()
		wantNoView(t, x, service, instance, topic, api.ErrArg)
		for _, text := range []string{"{a:1}", "", "x", strings.Repeat("1", 5000)} {
			wantProduce(t, x, service, instance, topic, text, api.ErrArg)
		}
	}
	numbers := []int{math.MinInt, -1 << 32, -2, -1, 0, 1, 2, 3, 4, 1 << 32, math.MaxInt}
	for _, s := range numbers {
		for _, instance := range numbers {
			isThere := s == 0 && instance >= 0 && instance < 3 || s == 1 && instance >= 0 && instance < 2
			if isThere {
				wantRelease(t, x, s, instance, 0)
			} else if release, errno := x.Release(s, instance); release != 0 || errno != api.ErrArg {
				t.Errorf("Release(%d, %d) = %d, %d", s, instance, release, errno)
			}
			for _, topic := range numbers {
				if !isThere || topic != 0 {
					wantNone(s, instance, topic)
				}
			}
		}
	}
	wantView(t, x, 1, 0, 0)
}

// P14, P15: messages that there are not.
func TestNoMessage(t *testing.T) {
	x := exampleRun(t)
	for count := 0; count <= api.MaxMessages; count++ {
		before := x.Pending()
		for _, k := range []int{math.MinInt, -1 << 32, -2, -1, count, count + 1, 40, 41, 1 << 32, math.MaxInt} {
			if a, b, c := x.Deliver(k), x.Drop(k), x.Copy(k); a != api.ErrArg || b != api.ErrArg || c != api.ErrArg {
				t.Errorf("Deliver, Drop, Copy of %d, with %d messages: %d, %d, %d", k, count, a, b, c)
			}
		}
		wantPending(t, x, before...)
		x.Tick()
	}
}

// P13: THE REST is the greatest Keep, whoever uses the topic; the tick at its end, and none before, begins the next move.
func TestRest(t *testing.T) {
	for _, c := range []struct {
		keeps []int
		rest  int
	}{
		{nil, 0}, {[]int{0}, 0}, {[]int{1}, 1}, {[]int{2}, 2}, {[]int{6}, 6}, {[]int{3, 0, 5, 4}, 5}, {[]int{0, 0, 0, 1}, 1}, {[]int{6, 1, 1, 1}, 6},
	} {
		f := api.Fleet{Services: []api.Service{service(1, release(), release())}}
		for _, keep := range c.keeps {
			f.Topics = append(f.Topics, api.Topic{Keep: keep})
		}
		x := begun(t, f, thereAndBack(4))
		time := 1
		for k := 0; k < 4; k++ {
			x.Tick()
			wantState(t, x, api.State{Stage: api.Going, At: k, Time: time, Number: k + 1, Works: true})
			wantPending(t, x, command(k+1, 0, 0, 1-k%2))
			deliver(t, x, 0, 0)
			wantRelease(t, x, 0, 0, 1-k%2)
			for wait := 1; k < 3 && wait < c.rest; wait++ {
				x.Tick()
				wantState(t, x, api.State{Stage: api.Going, At: k + 1, Time: time + wait, Number: k + 1})
			}
			time += max(1, c.rest)
		}
		if state := x.State(); state.Stage != api.Arrived || state.At != 4 {
			t.Errorf("Keeps %v: %+v", c.keeps, state)
		}
	}
}

// threeInstances is a run of one service of three instances that moves there and back, without a rest.
func threeInstances(t *testing.T, moves int) *rollout.Run {
	t.Helper()
	f := api.Fleet{Services: []api.Service{service(1, release(), release())}}
	f.Services[0].Size = 3
	return begun(t, f, thereAndBack(moves))
}

// P13: at each tick one command to the first instance that has not answered, whatever became of those before.
func TestCommands(t *testing.T) {
	x := threeInstances(t, 1)
	for number := 1; number <= 5; number++ {
		x.Tick()
		wantPending(t, x, command(number, 0, 0, 1))
		drop(t, x, 0)
	}
	x.Tick()
	deliver(t, x, 0)
	x.Tick()
	wantPending(t, x, answer(6, 0, 0, 1), command(7, 0, 0, 1))
	deliver(t, x, 0)
	x.Tick()
	wantPending(t, x, command(7, 0, 0, 1), command(8, 0, 1, 1))
	deliver(t, x, 1, 1)
	x.Tick()
	wantPending(t, x, command(7, 0, 0, 1), command(9, 0, 2, 1))
	wantRelease(t, x, 0, 2, 0)
	deliver(t, x, 1)
	wantState(t, x, api.State{Stage: api.Going, Time: 9, Number: 9, Works: true})
	deliver(t, x, 1)
	wantState(t, x, api.State{Stage: api.Arrived, At: 1, Time: 9, Number: 9})
	x.Tick()
	wantState(t, x, api.State{Stage: api.Arrived, At: 1, Time: 10, Number: 9})
	wantPending(t, x, command(7, 0, 0, 1))
	deliver(t, x, 0, 0)
	wantPending(t, x)
	wantState(t, x, api.State{Stage: api.Arrived, At: 1, Time: 10, Number: 9})
}

// P14: a command below the highest number does nothing; the same one again is followed, and answered, again.
func TestOldCommands(t *testing.T) {
	x := threeInstances(t, 1)
	ticks(x, 3)
	deliver(t, x, 1)
	wantPending(t, x, command(1, 0, 0, 1), command(3, 0, 0, 1), answer(2, 0, 0, 1))
	deliver(t, x, 0)
	wantPending(t, x, command(3, 0, 0, 1), answer(2, 0, 0, 1))
	double(t, x, 0)
	deliver(t, x, 0, 1)
	wantPending(t, x, answer(2, 0, 0, 1), answer(3, 0, 0, 1), answer(3, 0, 0, 1))
	deliver(t, x, 2, 1, 0)
	wantPending(t, x)
	wantState(t, x, api.State{Stage: api.Going, Time: 3, Number: 3, Works: true})
	x.Tick()
	wantPending(t, x, command(4, 0, 1, 1))
}

// P14: an old command turns no instance back, and an old answer, up to the base, counts for no later move.
func TestOldMessagesOfOtherMove(t *testing.T) {
	f := api.Fleet{Services: []api.Service{service(1, release(), release())}}
	x := begun(t, f, thereAndBack(3))
	ticks(x, 2)
	double(t, x, 1)
	deliver(t, x, 0, 0)
	wantPending(t, x, command(2, 0, 0, 1), answer(1, 0, 0, 1), answer(2, 0, 0, 1))
	double(t, x, 2)
	deliver(t, x, 1)
	wantState(t, x, api.State{Stage: api.Going, At: 1, Time: 2, Number: 2})
	// While it waits, an answer counts for nothing.
	double(t, x, 2)
	deliver(t, x, 3)
	x.Tick()
	wantPending(t, x, command(2, 0, 0, 1), answer(2, 0, 0, 1), answer(2, 0, 0, 1), command(3, 0, 0, 0))
	// Nor does one with the number of the base, once it works.
	deliver(t, x, 1)
	// Ahead of command 3 the instance follows command 2 once more; behind it, no more.
	double(t, x, 0)
	deliver(t, x, 3)
	wantPending(t, x, command(2, 0, 0, 1), answer(2, 0, 0, 1), command(3, 0, 0, 0), answer(2, 0, 0, 1))
	wantState(t, x, api.State{Stage: api.Going, At: 1, Time: 3, Number: 3, Works: true})
	deliver(t, x, 2)
	wantRelease(t, x, 0, 0, 0)
	deliver(t, x, 0)
	wantRelease(t, x, 0, 0, 0)
	wantPending(t, x, answer(2, 0, 0, 1), answer(2, 0, 0, 1), answer(3, 0, 0, 0))
	deliver(t, x, 0, 0)
	wantState(t, x, api.State{Stage: api.Going, At: 1, Time: 3, Number: 3, Works: true})
	deliver(t, x, 0)
	wantState(t, x, api.State{Stage: api.Going, At: 2, Time: 3, Number: 3})
}

// P14: all instances answer anew at each move, those that answered at the move before, too.
func TestAnswersAnew(t *testing.T) {
	x := threeInstances(t, 3)
	for number := 1; number <= 9; number++ {
		x.Tick()
		wantState(t, x, api.State{Stage: api.Going, At: (number - 1) / 3, Time: number, Number: number, Works: true})
		wantPending(t, x, command(number, 0, (number-1)%3, 1-(number-1)/3%2))
		deliver(t, x, 0, 0)
	}
	wantState(t, x, api.State{Stage: api.Arrived, At: 3, Time: 9, Number: 9})
}

// P13, P14, P15: with as many messages as there may be.
func TestFullList(t *testing.T) {
	x := exampleRun(t)
	ticks(x, 39)
	double(t, x, 4)
	if errno := x.Copy(0); errno != api.ErrFull {
		t.Errorf("Copy(0) with 40 messages: %d", errno)
	}
	full := x.Pending()
	if len(full) != 40 || full[38] != command(39, 1, 0, 1) || full[39] != command(5, 1, 0, 1) {
		t.Fatalf("Pending() = %+v", full)
	}
	ticks(x, 3)
	wantPending(t, x, full...)
	wantState(t, x, api.State{Stage: api.Going, Time: 42, Number: 42, Works: true})
	// What arrives has left the list, so that there is room for the answer.
	deliver(t, x, 38)
	full = append(append(full[:38:38], full[39]), answer(39, 1, 0, 1))
	wantPending(t, x, full...)
	deliver(t, x, 0)
	wantPending(t, x, full[1:]...)
	x.Tick()
	full = append(full[1:], command(43, 1, 0, 1))
	wantPending(t, x, full...)
	x.Tick()
	wantPending(t, x, full...)
	drop(t, x, 20)
	double(t, x, 0)
	wantPending(t, x, append(append(full[:20:20], full[21:]...), full[0])...)
}

// P15: Drop and Copy at each place of the list; nothing but the list is changed.
func TestDropAndCopy(t *testing.T) {
	for k := 0; k < 5; k++ {
		x := exampleRun(t)
		ticks(x, 5)
		all := x.Pending()
		state := x.State()
		double(t, x, k)
		wantPending(t, x, append(all[:5:5], all[k])...)
		drop(t, x, k)
		wantPending(t, x, append(append(all[:k:k], all[k+1:]...), all[k])...)
		drop(t, x, 4)
		wantPending(t, x, append(all[:k:k], all[k+1:]...)...)
		wantState(t, x, state)
		wantRelease(t, x, 1, 0, 0)
	}
}

// forEverAndNot makes a fleet with a topic for each of these Keeps, all written and read by one service.
func forEverAndNot(keeps ...int) api.Fleet {
	f := api.Fleet{Schemas: []string{"i"}, Services: []api.Service{service(0, release())}}
	for topic, keep := range keeps {
		f.Topics = append(f.Topics, api.Topic{Keep: keep})
		f.Services[0].Releases[0].Pins = append(f.Services[0].Releases[0].Pins, api.Pin{Topic: topic})
	}
	return f
}

// P13: a record is there until Keep units of time have gone by, and with a Keep of 0 for ever.
func TestKeep(t *testing.T) {
	for keep := 0; keep <= api.MaxKeep; keep++ {
		for start := 0; start < 3; start++ {
			x := begun(t, forEverAndNot(6, keep, 0), nil)
			ticks(x, start)
			wantProduce(t, x, 0, 0, 1, "7", api.OK)
			for age := 0; age < 50; age++ {
				if keep == 0 || age < keep {
					wantView(t, x, 0, 0, 1, "7")
				} else {
					wantView(t, x, 0, 0, 1)
				}
				wantView(t, x, 0, 0, 0)
				wantView(t, x, 0, 0, 2)
				x.Tick()
			}
		}
	}
}

// P13, P16: records go in the order in which they came, and make room.
func TestRecordsInOrder(t *testing.T) {
	x := begun(t, forEverAndNot(3, 0), nil)
	texts := strings.Split("0 1 2 3 4 5 6 7 8 9 10 11 12 13 14 15 16 17 18 19", " ")
	for k, text := range texts {
		wantProduce(t, x, 0, 0, 0, text, api.OK)
		wantView(t, x, 0, 0, 0, texts[max(0, k-2):k+1]...)
		want := api.OK
		if k >= api.MaxRecords {
			want = api.ErrFull
		}
		wantProduce(t, x, 0, 0, 1, text, want)
		wantView(t, x, 0, 0, 1, texts[:min(k+1, api.MaxRecords)]...)
		x.Tick()
	}
}

// P16: as many records as there may be in one topic; the others have their own room, and what goes makes room again.
func TestFullTopic(t *testing.T) {
	x := begun(t, forEverAndNot(2, 2), nil)
	var all []string
	for k := 0; k < api.MaxRecords; k++ {
		if k == 5 {
			x.Tick()
		}
		text := string(rune('a'+k)) + "!"
		wantProduce(t, x, 0, 0, 0, text, api.ErrText)
		wantProduce(t, x, 0, 0, 0, "1", api.OK)
		all = append(all, "1")
		wantView(t, x, 0, 0, 0, all...)
	}
	wantProduce(t, x, 0, 0, 0, "2", api.ErrFull)
	wantProduce(t, x, 0, 0, 0, "x", api.ErrText)
	wantProduce(t, x, 0, 0, 1, "3", api.OK)
	wantView(t, x, 0, 0, 0, all...)
	wantView(t, x, 0, 0, 1, "3")
	x.Tick()
	wantView(t, x, 0, 0, 0, all[:7]...)
	for k := 0; k < 5; k++ {
		wantProduce(t, x, 0, 0, 0, "4", api.OK)
	}
	wantProduce(t, x, 0, 0, 0, "5", api.ErrFull)
	wantView(t, x, 0, 0, 0, append(all[:7:7], "4", "4", "4", "4", "4")...)
}

// P16, P17: topics that a release has no pin for, does not write or does not read; and the errors of Encode, with a full topic too.
func TestRecordErrors(t *testing.T) {
	f := oneTopic(0, []string{"[s]", "[s]"}, service(0, release([3]int{0, 0, -1}, [3]int{1, -1, 1})), service(0, release()))
	f.Topics = make([]api.Topic, 3)
	x := begun(t, f, nil)
	for k := 0; k < 2; k++ {
		for topic := 0; topic < 3; topic++ {
			wantNoView(t, x, 1, 0, topic, api.ErrPin)
			for _, text := range []string{`[""]`, "", strings.Repeat("1", api.MaxText+1)} {
				wantProduce(t, x, 1, 0, topic, text, api.ErrPin)
				if topic > 0 {
					wantProduce(t, x, 0, 0, topic, text, api.ErrPin)
				}
			}
		}
		wantNoView(t, x, 0, 0, 0, api.ErrPin)
		wantNoView(t, x, 0, 0, 2, api.ErrPin)
		wantView(t, x, 0, 0, 1)
		long := `"` + strings.Repeat("x", 60) + `"`
		wantProduce(t, x, 0, 0, 0, strings.Repeat("1", api.MaxText+1), api.ErrLong)
		wantProduce(t, x, 0, 0, 0, strings.Repeat("1", api.MaxText), api.ErrText)
		wantProduce(t, x, 0, 0, 0, "", api.ErrText)
		wantProduce(t, x, 0, 0, 0, "["+long+`,"xxx"]`, api.ErrBig)
		for n := 0; k == 0 && n < api.MaxRecords; n++ {
			wantProduce(t, x, 0, 0, 0, "["+long+`,"x"]`, api.OK)
		}
		wantProduce(t, x, 0, 0, 0, "[]", api.ErrFull)
	}
}

// P16, P17: the release that the instance has at the moment tells how it writes and reads, not that of the others of its service.
func TestEachInstanceByItsRelease(t *testing.T) {
	f := oneTopic(2, []string{"{a:i}", `{a:i,b:s="-"}`}, service(1, release([3]int{0, 0, 0}), release([3]int{0, 1, 1}), release([3]int{0, -1, 0})))
	f.Services[0].Size = 2
	x := begun(t, f, list([2]int{0, 1}, [2]int{0, 2}))
	wantProduce(t, x, 0, 0, 0, `{a:1,b:"x"}`, api.ErrText)
	wantProduce(t, x, 0, 0, 0, "{a:1}", api.OK)
	x.Tick()
	deliver(t, x, 0)
	wantProduce(t, x, 0, 0, 0, "{a:2}", api.ErrText)
	wantProduce(t, x, 0, 0, 0, `{a:2,b:"x"}`, api.OK)
	wantProduce(t, x, 0, 1, 0, "{a:3}", api.OK)
	wantView(t, x, 0, 0, 0, `{a:1,b:"-"}`, `{a:2,b:"x"}`, `{a:3,b:"-"}`)
	wantView(t, x, 0, 1, 0, "{a:1}", "{a:2}", "{a:3}")
	for x.State().At == 0 {
		quiet(t, x)
	}
	wantProduce(t, x, 0, 1, 0, `{a:4,b:"y"}`, api.OK)
	for len(x.Pending()) == 0 {
		x.Tick()
	}
	deliver(t, x, 0)
	wantRelease(t, x, 0, 0, 2)
	wantProduce(t, x, 0, 0, 0, "{a:5}", api.ErrPin)
	wantProduce(t, x, 0, 1, 0, `{a:5,b:"z"}`, api.OK)
	wantView(t, x, 0, 0, 0, "{a:4}", "{a:5}")
	wantView(t, x, 0, 1, 0, `{a:4,b:"y"}`, `{a:5,b:"z"}`)
}

// P17: the pins of a release may stand in any order.
func TestPinsInAnyOrder(t *testing.T) {
	f := api.Fleet{Schemas: []string{"i", "l", "s", "?i"}, Topics: make([]api.Topic, 4), Services: []api.Service{
		service(0, release([3]int{2, 2, 2}, [3]int{0, 0, 1}, [3]int{3, 3, 3}, [3]int{1, 1, 1})),
	}}
	x := begun(t, f, nil)
	texts := []string{"5", "6000000000", `"x"`, "_"}
	for topic, text := range texts {
		for other, wrong := range texts {
			_, errno := rollout.Encode(f.Schemas[topic], wrong)
			if other != topic && errno != api.OK {
				wantProduce(t, x, 0, 0, topic, wrong, errno)
			}
		}
		wantProduce(t, x, 0, 0, topic, text, api.OK)
	}
	for topic, text := range texts {
		wantView(t, x, 0, 0, topic, text)
	}
}

// P11, P14: as many moves as there may be.
func TestLongRun(t *testing.T) {
	f := oneTopic(6, []string{"i"}, service(1, release([3]int{0, 0, 0}), release([3]int{0, 0, 0})))
	f.Services[0].Size = 3
	x := begun(t, f, thereAndBack(api.MaxMoves))
	rounds := 0
	for ; x.State().Stage == api.Going && rounds <= 201*9; rounds++ {
		quiet(t, x)
	}
	// Each move takes three commands, and behind each but the last one six units go by from its last command on; a last round delivers.
	if rounds != 199*(2+6)+3+1 {
		t.Errorf("%d rounds", rounds)
	}
	state := x.State()
	wantState(t, x, api.State{Stage: api.Arrived, At: 200, Time: state.Time, Number: 600})
	wantRelease(t, x, 0, 2, 0)
}
