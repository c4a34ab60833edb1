package rollout_test

import (
	"testing"

	"rollout/api"
)

// P13, P19: while it is paused it neither begins nor sends anything; the time, and with it the records, goes on.
func TestPause(t *testing.T) {
	x := exampleRun(t)
	wantPause(t, x, false, api.OK)
	wantPause(t, x, true, api.OK)
	wantPause(t, x, true, api.OK)
	wantProduce(t, x, 0, 0, 0, "{a:1}", api.OK)
	x.Tick()
	wantView(t, x, 1, 0, 0, "{a:1}")
	x.Tick()
	wantView(t, x, 1, 0, 0)
	wantState(t, x, api.State{Stage: api.Going, Time: 2, Paused: true})
	wantPending(t, x)
	wantPause(t, x, false, api.OK)
	x.Tick()
	wantState(t, x, api.State{Stage: api.Going, Time: 3, Number: 1, Works: true})
	wantPause(t, x, true, api.OK)
	ticks(x, 5)
	wantState(t, x, api.State{Stage: api.Going, Time: 8, Number: 1, Works: true, Paused: true})
	wantPending(t, x, command(1, 1, 0, 1))
	wantPause(t, x, false, api.OK)
	x.Tick()
	wantPending(t, x, command(1, 1, 0, 1), command(2, 1, 0, 1))
}

// P14: answers count while it is paused, and lead to the next rest, which goes on, and to the end.
func TestAnswersWhilePaused(t *testing.T) {
	for _, rest := range []int{0, 1, 4} {
		x := oneByOne(t, rest, 2)
		x.Tick()
		wantPause(t, x, true, api.OK)
		deliver(t, x, 0, 0)
		wantState(t, x, api.State{Stage: api.Going, At: 1, Time: 1, Number: 1, Paused: true})
		ticks(x, max(1, rest)-1)
		wantPause(t, x, false, api.OK)
		wantState(t, x, api.State{Stage: api.Going, At: 1, Time: max(1, rest), Number: 1})
		x.Tick()
		wantPending(t, x, command(2, 0, 0, 0))
		wantPause(t, x, true, api.OK)
		deliver(t, x, 0, 0)
		wantState(t, x, api.State{Stage: api.Arrived, At: 2, Time: 1 + max(1, rest), Number: 2, Paused: true})
		wantOver(t, x)
	}
}

// P18, P19: on the way back it can be paused, too, and a paused one can turn back.
func TestPauseOnWayBack(t *testing.T) {
	x := oneByOne(t, 2, 3)
	x.Tick()
	deliver(t, x, 0, 0)
	wantPause(t, x, true, api.OK)
	wantAbort(t, x, api.OK)
	wantState(t, x, api.State{Stage: api.Back, At: 1, Time: 1, Number: 1, Paused: true})
	ticks(x, 4)
	wantState(t, x, api.State{Stage: api.Back, At: 1, Time: 5, Number: 1, Paused: true})
	wantPending(t, x)
	wantPause(t, x, false, api.OK)
	x.Tick()
	wantPending(t, x, command(2, 0, 0, 0))
	wantPause(t, x, true, api.OK)
	x.Tick()
	wantPending(t, x, command(2, 0, 0, 0))
	deliver(t, x, 0, 0)
	wantState(t, x, api.State{Stage: api.Returned, Time: 7, Number: 2, Paused: true})
	wantOver(t, x)
}
