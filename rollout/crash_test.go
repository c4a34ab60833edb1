package rollout_test

import (
	"testing"

	"rollout/api"
	"rollout/rollout"
)

// wantCrash lets the controller crash, and fails the test unless all that can be seen at once stays.
func wantCrash(t *testing.T, x *rollout.Run) {
	t.Helper()
	state := x.State()
	pending := x.Pending()
	x.Crash()
	wantState(t, x, state)
	wantPending(t, x, pending...)
}

// P20: at work it begins anew: who has answered is lost, and answers to what was sent before count no more.
func TestCrashAtWork(t *testing.T) {
	x := threeInstances(t, 2)
	for k := 0; k < 2; k++ {
		x.Tick()
		deliver(t, x, 0, 0)
	}
	x.Tick()
	deliver(t, x, 0)
	double(t, x, 0)
	wantCrash(t, x)
	deliver(t, x, 0)
	wantState(t, x, api.State{Stage: api.Going, Time: 3, Number: 3, Works: true})
	for instance := 0; instance < 3; instance++ {
		x.Tick()
		wantPending(t, x, answer(3, 0, 2, 1), command(4+instance, 0, instance, 1))
		deliver(t, x, 1)
		wantRelease(t, x, 0, instance, 1)
		deliver(t, x, 1)
	}
	wantState(t, x, api.State{Stage: api.Going, At: 1, Time: 6, Number: 6})
	deliver(t, x, 0)
	wantState(t, x, api.State{Stage: api.Going, At: 1, Time: 6, Number: 6})
}

// P20: on the way back it goes on back.
func TestCrashAtWorkOnWayBack(t *testing.T) {
	x := threeInstances(t, 2)
	x.Tick()
	deliver(t, x, 0, 0)
	wantAbort(t, x, api.OK)
	wantCrash(t, x)
	x.Tick()
	deliver(t, x, 0)
	wantCrash(t, x)
	deliver(t, x, 0)
	for instance := 0; instance < 3; instance++ {
		x.Tick()
		wantPending(t, x, command(3+instance, 0, instance, 0))
		deliver(t, x, 0, 0)
	}
	wantState(t, x, api.State{Stage: api.Returned, Time: 5, Number: 5})
	wantCrash(t, x)
	wantOver(t, x)
}

// P20: while it waits, THE REST begins anew, at the start too, forth and back.
func TestCrashWhileWaiting(t *testing.T) {
	for rest := 0; rest <= api.MaxKeep; rest++ {
		for waited := 0; waited < max(1, rest); waited++ {
			for _, back := range []bool{false, true} {
				x := oneByOne(t, rest, 3)
				x.Tick()
				deliver(t, x, 0, 0)
				ticks(x, waited)
				want := api.State{Stage: api.Going, At: 1, Time: 1 + waited, Number: 1}
				if back {
					wantAbort(t, x, api.OK)
					want.Stage = api.Back
				}
				wantCrash(t, x)
				for k := 0; k < max(1, rest); k++ {
					wantState(t, x, want)
					x.Tick()
					want.Time++
				}
				want.Number, want.Works = 2, true
				wantState(t, x, want)
				wantPending(t, x, command(2, 0, 0, 0))
			}
		}
		x := oneByOne(t, rest, 1)
		wantCrash(t, x)
		ticks(x, max(1, rest)-1)
		wantState(t, x, api.State{Stage: api.Going, Time: max(1, rest) - 1})
		x.Tick()
		wantPending(t, x, command(1, 0, 0, 1))
	}
}

// P20: a crash shortens no rest, however often it comes.
func TestCrashAgainAndAgain(t *testing.T) {
	x := oneByOne(t, 3, 2)
	for k := 0; k < 20; k++ {
		wantCrash(t, x)
		ticks(x, 2)
	}
	wantState(t, x, api.State{Stage: api.Going, Time: 40})
	x.Tick()
	for k := 0; k < 20; k++ {
		deliver(t, x, 0)
		wantCrash(t, x)
		deliver(t, x, 0)
		x.Tick()
	}
	wantState(t, x, api.State{Stage: api.Going, Time: 61, Number: 21, Works: true})
	deliver(t, x, 0, 0)
	wantState(t, x, api.State{Stage: api.Going, At: 1, Time: 61, Number: 21})
}

// P20: that it is paused is written down; the instances and the topics do not crash.
func TestCrashWhilePaused(t *testing.T) {
	x := exampleRun(t)
	wantProduce(t, x, 0, 0, 0, "{a:1}", api.OK)
	x.Tick()
	deliver(t, x, 0)
	wantPause(t, x, true, api.OK)
	wantCrash(t, x)
	wantRelease(t, x, 1, 0, 1)
	wantView(t, x, 1, 0, 0, `{a:1,b:"-"}`)
	x.Tick()
	wantPending(t, x, answer(1, 1, 0, 1))
	deliver(t, x, 0)
	wantPause(t, x, false, api.OK)
	x.Tick()
	wantPending(t, x, command(2, 1, 0, 1))
}

// P20: what has arrived stays so.
func TestCrashOnceArrived(t *testing.T) {
	x := oneByOne(t, 2, 1)
	x.Tick()
	deliver(t, x, 0, 0)
	wantCrash(t, x)
	wantOver(t, x)
	wantState(t, x, api.State{Stage: api.Arrived, At: 1, Time: 11, Number: 1})
}

// P21: the longest way there is, forth and back, with a crash ahead of each.
func TestLongWayBack(t *testing.T) {
	f := oneTopic(6, []string{"i"}, service(1, release([3]int{0, 0, 0}), release([3]int{0, 0, 0})))
	f.Services[0].Size = 3
	x := begun(t, f, thereAndBack(api.MaxMoves))
	x.Crash()
	quietUntil(t, x, api.Going, 199, true)
	number := x.State().Number
	wantAbort(t, x, api.OK)
	x.Crash()
	rounds := 0
	for ; x.State().Stage == api.Back && rounds <= 201*9; rounds++ {
		quiet(t, x)
	}
	// Each move takes three commands, and behind each but the last one six units go by from its last command on; the rounds begin and end with one that only sends, or delivers.
	if rounds != 199*(2+6)+3+1 {
		t.Errorf("%d rounds", rounds)
	}
	wantState(t, x, api.State{Stage: api.Returned, Time: x.State().Time, Number: number + 600})
	for instance := 0; instance < 3; instance++ {
		wantRelease(t, x, 0, instance, 0)
	}
}
