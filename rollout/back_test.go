package rollout_test

import (
	"testing"

	"rollout/api"
	"rollout/rollout"
)

func wantAbort(t *testing.T, x *rollout.Run, want api.Errno) {
	t.Helper()
	before := x.State()
	errno := x.Abort()
	if errno != want {
		t.Fatalf("Abort() = %d, want %d", errno, want)
	}
	if want != api.OK {
		wantState(t, x, before)
	}
}

func wantPause(t *testing.T, x *rollout.Run, on bool, want api.Errno) {
	t.Helper()
	state := x.State()
	if errno := x.Pause(on); errno != want {
		t.Fatalf("Pause(%t) = %d, want %d", on, errno, want)
	}
	if want == api.OK {
		state.Paused = on
	}
	wantState(t, x, state)
}

// quietUntil makes quiet rounds until the controller is there.
func quietUntil(t *testing.T, x *rollout.Run, stage int, at int, works bool) {
	t.Helper()
	for rounds := 0; rounds < (api.MaxMoves+1)*(api.MaxSize+api.MaxKeep); rounds++ {
		if state := x.State(); state.Stage == stage && state.At == at && state.Works == works {
			return
		}
		quiet(t, x)
	}
	t.Fatalf("no stage %d, At %d, Works %t: %+v", stage, at, works, x.State())
}

// wantOver fails the test unless nothing but the time changes any more.
func wantOver(t *testing.T, x *rollout.Run) {
	t.Helper()
	state := x.State()
	pending := x.Pending()
	for k := 0; k < 10; k++ {
		wantAbort(t, x, api.ErrOver)
		wantPause(t, x, true, api.ErrOver)
		wantPause(t, x, false, api.ErrOver)
		x.Crash()
		x.Tick()
		state.Time++
		wantState(t, x, state)
		wantPending(t, x, pending...)
	}
}

// P18, example 11.
func TestAbortExample(t *testing.T) {
	x := exampleRun(t)
	x.Tick()
	wantAbort(t, x, api.OK)
	wantState(t, x, api.State{Stage: api.Back, At: 1, Time: 1, Number: 1, Works: true})
	wantPending(t, x, command(1, 1, 0, 1))
	x.Tick()
	wantPending(t, x, command(1, 1, 0, 1), command(2, 1, 0, 0))
	// An answer to number 1 does not count any more.
	deliver(t, x, 0, 1)
	wantRelease(t, x, 1, 0, 1)
	x.Tick()
	wantPending(t, x, command(2, 1, 0, 0), command(3, 1, 0, 0))
	deliver(t, x, 1)
	wantRelease(t, x, 1, 0, 0)
	deliver(t, x, 0, 0)
	wantPending(t, x)
	x.Tick()
	wantPending(t, x, command(4, 1, 1, 0))
	deliver(t, x, 0)
	wantState(t, x, api.State{Stage: api.Back, At: 1, Time: 4, Number: 4, Works: true})
	deliver(t, x, 0)
	wantState(t, x, api.State{Stage: api.Returned, Time: 4, Number: 4})
	wantOver(t, x)
}

// P18: at the place 0, while it waits, it has returned at once: at the start, paused or crashed.
func TestAbortAtStart(t *testing.T) {
	for before := 0; before < 4; before++ {
		x := exampleRun(t)
		paused := before%2 == 1
		if paused {
			wantPause(t, x, true, api.OK)
		}
		if before >= 2 {
			x.Crash()
		}
		if paused || before >= 2 {
			x.Tick()
		}
		time := x.State().Time
		wantAbort(t, x, api.OK)
		wantState(t, x, api.State{Stage: api.Returned, Time: time, Paused: paused})
		wantOver(t, x)
		wantPending(t, x)
		wantRelease(t, x, 1, 0, 0)
	}
}

// P18, P19, P20: where it has arrived, with no moves at once.
func TestOverOnceArrived(t *testing.T) {
	x := begun(t, exampleFleet(2), nil)
	wantOver(t, x)
	x = exampleRun(t)
	quietUntil(t, x, api.Arrived, 2, false)
	wantOver(t, x)
	wantState(t, x, api.State{Stage: api.Arrived, At: 2, Time: x.State().Time, Number: 3})
	wantRelease(t, x, 0, 0, 1)
}

// P18: on its way back, at work or not, paused or not, crashed or not.
func TestAbortTwice(t *testing.T) {
	x := exampleRun(t)
	quietUntil(t, x, api.Going, 1, false)
	wantAbort(t, x, api.OK)
	wantState(t, x, api.State{Stage: api.Back, At: 1, Time: 3, Number: 2})
	for rounds := 0; rounds < 3; rounds++ {
		wantAbort(t, x, api.ErrBack)
		wantPause(t, x, true, api.OK)
		wantAbort(t, x, api.ErrBack)
		wantPause(t, x, false, api.OK)
		quiet(t, x)
	}
	wantAbort(t, x, api.ErrOver)
	x = exampleRun(t)
	x.Tick()
	wantAbort(t, x, api.OK)
	for k := 0; k < 3; k++ {
		x.Crash()
		wantAbort(t, x, api.ErrBack)
		x.Tick()
	}
	wantPending(t, x, command(1, 1, 0, 1), command(2, 1, 0, 0), command(3, 1, 0, 0), command(4, 1, 0, 0))
}

// oneByOne is a run of one service of one instance that moves there and back, with this rest.
func oneByOne(t *testing.T, rest int, moves int) *rollout.Run {
	t.Helper()
	f := api.Fleet{Topics: []api.Topic{{Keep: rest}}, Services: []api.Service{service(1, release(), release())}}
	return begun(t, f, thereAndBack(moves))
}

// P18: an Abort within the rest does not change when it ends.
func TestAbortWhileWaiting(t *testing.T) {
	for rest := 0; rest <= api.MaxKeep; rest++ {
		for waited := 0; waited < max(1, rest); waited++ {
			x := oneByOne(t, rest, 3)
			x.Tick()
			deliver(t, x, 0, 0)
			ticks(x, waited)
			wantAbort(t, x, api.OK)
			for time := 1 + waited; time < 1+max(1, rest); time++ {
				wantState(t, x, api.State{Stage: api.Back, At: 1, Time: time, Number: 1})
				wantPending(t, x)
				x.Tick()
			}
			wantState(t, x, api.State{Stage: api.Back, At: 1, Time: 1 + max(1, rest), Number: 2, Works: true})
			wantPending(t, x, command(2, 0, 0, 0))
			deliver(t, x, 0, 0)
			wantState(t, x, api.State{Stage: api.Returned, Time: 1 + max(1, rest), Number: 2})
		}
	}
}

// P14: on the way back THE REST lies behind each move that is undone, but for the last one.
func TestRestOnWayBack(t *testing.T) {
	for rest := 0; rest <= api.MaxKeep; rest++ {
		x := oneByOne(t, rest, 5)
		quietUntil(t, x, api.Going, 3, true)
		time, number := x.State().Time, x.State().Number
		drop(t, x, 0)
		wantAbort(t, x, api.OK)
		for at := 4; at > 0; at-- {
			time++
			number++
			x.Tick()
			wantState(t, x, api.State{Stage: api.Back, At: at, Time: time, Number: number, Works: true})
			// Move at - 1 led from release 1 to 0 if at is even.
			wantPending(t, x, command(number, 0, 0, 1-at%2))
			deliver(t, x, 0, 0)
			for waited := 0; at > 1 && waited < rest; waited++ {
				wantState(t, x, api.State{Stage: api.Back, At: at - 1, Time: time, Number: number})
				if waited < rest-1 {
					x.Tick()
					time++
				}
			}
		}
		wantState(t, x, api.State{Stage: api.Returned, Time: time, Number: number})
		wantRelease(t, x, 0, 0, 0)
	}
}

// manyWays is a fleet whose services, with one, two and three instances, may have any release, and moves of them in which each has several.
func manyWays() (api.Fleet, []api.Move) {
	f := free([]int{3, 3, 2}, []int{2, 0, 1}, []int{0, 0, 0})
	for s := range f.Services {
		f.Services[s].Size = s + 1
	}
	return f, list([2]int{0, 1}, [2]int{1, 2}, [2]int{0, 0}, [2]int{1, 1}, [2]int{2, 0}, [2]int{0, 2}, [2]int{1, 2}, [2]int{2, 1}, [2]int{0, 0})
}

// undone tells the commands, without their numbers, that undo the first of the moves.
func undone(f api.Fleet, moves []api.Move) []api.Message {
	var commands []api.Message
	for k := len(moves) - 1; k >= 0; k-- {
		s := moves[k].Service
		for instance := 0; instance < f.Services[s].Size; instance++ {
			commands = append(commands, command(0, s, instance, modelAfter(f, moves[:k]).has[s]))
		}
	}
	return commands
}

// turnedBack is a run that turns back after so many quiet rounds, and perhaps the first half of another; it tells how many moves are to be undone, and the last number.
func turnedBack(t *testing.T, f api.Fleet, moves []api.Move, rounds int, half bool) (*rollout.Run, int, int) {
	t.Helper()
	x := begun(t, f, moves)
	for k := 0; k < rounds; k++ {
		quiet(t, x)
	}
	for half && len(x.Pending()) > 0 {
		deliver(t, x, 0)
	}
	state := x.State()
	wantAbort(t, x, api.OK)
	if state.Works {
		return x, state.At + 1, state.Number
	}
	return x, state.At, state.Number
}

// P11, P13, P18: each move is undone, the last one first, each to the release that its service had ahead of it, wherever it turns back.
func TestWayBack(t *testing.T) {
	f, moves := manyWays()
	// The moves take 16 commands in all.
	for turn := 0; turn <= 32; turn++ {
		x, count, number := turnedBack(t, f, moves, turn/2, turn%2 == 1)
		if at := x.State().At; at != count {
			t.Fatalf("turn %d: At is %d, want %d", turn, at, count)
		}
		for len(x.Pending()) > 0 {
			deliver(t, x, 0)
		}
		for _, want := range undone(f, moves[:count]) {
			number++
			want.Number = number
			x.Tick()
			wantPending(t, x, want)
			deliver(t, x, 0, 0)
			wantRelease(t, x, want.Service, want.Instance, want.Release)
		}
		wantState(t, x, api.State{Stage: api.Returned, Time: x.State().Time, Number: number})
		for s, service := range f.Services {
			for instance := 0; instance < service.Size; instance++ {
				wantRelease(t, x, s, instance, service.Now)
			}
		}
	}
}

// P14, P18: a command of the way forth is followed until one of the way back has come, and not behind it; its answer counts for nothing.
func TestOldMessagesOnWayBack(t *testing.T) {
	x := oneByOne(t, 0, 2)
	x.Tick()
	double(t, x, 0)
	double(t, x, 0)
	deliver(t, x, 0)
	wantAbort(t, x, api.OK)
	wantPending(t, x, command(1, 0, 0, 1), command(1, 0, 0, 1), answer(1, 0, 0, 1))
	deliver(t, x, 2)
	wantState(t, x, api.State{Stage: api.Back, At: 1, Time: 1, Number: 1, Works: true})
	x.Tick()
	deliver(t, x, 0)
	wantPending(t, x, command(1, 0, 0, 1), command(2, 0, 0, 0), answer(1, 0, 0, 1))
	deliver(t, x, 1)
	wantRelease(t, x, 0, 0, 0)
	deliver(t, x, 0, 0)
	wantRelease(t, x, 0, 0, 0)
	wantState(t, x, api.State{Stage: api.Back, At: 1, Time: 2, Number: 2, Works: true})
	wantPending(t, x, answer(2, 0, 0, 0))
	deliver(t, x, 0)
	wantState(t, x, api.State{Stage: api.Returned, Time: 2, Number: 2})
}

// P18: those that answered on the way forth answer anew on the way back, and so do those that no command had reached.
func TestAnswersAnewOnWayBack(t *testing.T) {
	x := threeInstances(t, 1)
	for k := 0; k < 2; k++ {
		x.Tick()
		deliver(t, x, 0, 0)
	}
	wantAbort(t, x, api.OK)
	for instance := 0; instance < 3; instance++ {
		wantState(t, x, api.State{Stage: api.Back, At: 1, Time: 2 + instance, Number: 2 + instance, Works: true})
		x.Tick()
		wantPending(t, x, command(3+instance, 0, instance, 0))
		deliver(t, x, 0, 0)
	}
	wantState(t, x, api.State{Stage: api.Returned, Time: 5, Number: 5})
}

// P17, P18: what the new release has written is gone before an instance comes back to a release that can't read it.
func TestRecordsOnWayBack(t *testing.T) {
	x := exampleRun(t)
	quietUntil(t, x, api.Going, 1, true)
	deliver(t, x, 0)
	wantProduce(t, x, 0, 0, 0, `{a:7000000000,b:"new"}`, api.OK)
	wantAbort(t, x, api.OK)
	x.Tick()
	wantProduce(t, x, 0, 0, 0, `{a:8000000000,b:"newer"}`, api.OK)
	deliver(t, x, 1)
	wantProduce(t, x, 0, 0, 0, "{a:9}", api.OK)
	for instance := 0; instance < 2; instance++ {
		wantView(t, x, 1, instance, 0, `{a:7000000000,b:"new"}`, `{a:8000000000,b:"newer"}`, `{a:9,b:"-"}`)
	}
	deliver(t, x, 1)
	wantState(t, x, api.State{Stage: api.Back, At: 1, Time: 5, Number: 4})
	x.Tick()
	wantView(t, x, 1, 0, 0, `{a:8000000000,b:"newer"}`, `{a:9,b:"-"}`)
	wantProduce(t, x, 0, 0, 0, "{a:10}", api.OK)
	x.Tick()
	wantPending(t, x, answer(3, 0, 0, 1), command(5, 1, 0, 0))
	deliver(t, x, 1)
	wantView(t, x, 1, 0, 0, "{a:10}")
	wantView(t, x, 1, 1, 0, `{a:10,b:"-"}`)
}
