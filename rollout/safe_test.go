package rollout_test

import (
	"math"
	"math/rand"
	"testing"

	"rollout/api"
	"rollout/rollout"
)

// list makes moves of pairs, each a service and a release.
func list(pairs ...[2]int) []api.Move {
	var moves []api.Move
	for _, pair := range pairs {
		moves = append(moves, api.Move{Service: pair[0], To: pair[1]})
	}
	return moves
}

// wantSafe fails the test unless so many moves are safe, or there is this error; and unless a run starts just with safe moves.
func wantSafe(t *testing.T, f api.Fleet, moves []api.Move, want int, wantErrno api.Errno) {
	t.Helper()
	n, errno := rollout.Safe(f, moves)
	if n != want || errno != wantErrno {
		t.Errorf("Safe(%+v, %v) = %d, %d, want %d, %d", f, moves, n, errno, want, wantErrno)
	}
	if wantErrno == api.OK && want < len(moves) {
		wantErrno = api.ErrUnsafe
	}
	x, errno := rollout.Start(f, moves)
	if errno != wantErrno || (x == nil) != (errno != api.OK) {
		t.Errorf("Start(%+v, %v) = %v, %d, want %d", f, moves, x, errno, wantErrno)
	}
}

// P9, example 7.
func TestSafeExamples(t *testing.T) {
	wantSafe(t, exampleFleet(2), list([2]int{0, 1}, [2]int{1, 1}), 0, api.OK)
	wantSafe(t, exampleFleet(2), list([2]int{1, 1}, [2]int{0, 1}), 2, api.OK)
	wantSafe(t, exampleFleet(0), list([2]int{1, 1}, [2]int{0, 1}), 1, api.OK)
	wantSafe(t, exampleFleet(2), nil, 0, api.OK)
}

// P9: a release that can't read what it writes itself.
func TestSafeItself(t *testing.T) {
	for _, keep := range []int{0, 1} {
		f := oneTopic(keep, []string{"i", "s"}, service(1, release(), release([3]int{0, 0, 1})))
		wantSafe(t, f, list([2]int{0, 1}), 0, api.OK)
		f.Services[0].Releases[1].Pins[0].Reads = 0
		wantSafe(t, f, list([2]int{0, 1}), 1, api.OK)
	}
}

// P9: the new release and the one that it takes the place of, each as the writer.
func TestSafeTakenPlace(t *testing.T) {
	for _, keep := range []int{0, 1} {
		for _, old := range []api.Release{writes(0), reads(0)} {
			for _, new := range []api.Release{writes(1), reads(1)} {
				want := 1
				if old.Pins[0].Writes != new.Pins[0].Writes && (old.Pins[0].Writes == -1) != (new.Pins[0].Writes == -1) {
					want = 0
				}
				wantSafe(t, oneTopic(keep, []string{"i", "s"}, service(1, old, new)), list([2]int{0, 1}), want, api.OK)
			}
		}
	}
}

// P9: the new release and the one of another service, each as the writer, the other service ahead or behind.
func TestSafeOtherService(t *testing.T) {
	for _, keep := range []int{0, 1} {
		for _, schema := range []int{0, 1} {
			for _, pair := range [][2]api.Release{{writes(0), reads(schema)}, {reads(0), writes(schema)}} {
				other := service(0, pair[0])
				moved := service(1, release(), pair[1])
				wantSafe(t, oneTopic(keep, []string{"i", "s"}, other, idle(), moved), list([2]int{2, 1}), 1-schema, api.OK)
				wantSafe(t, oneTopic(keep, []string{"i", "s"}, moved, idle(), other), list([2]int{0, 1}), 1-schema, api.OK)
			}
		}
	}
}

// idle makes a service with one release that does nothing.
func idle() api.Service { return service(0, release()) }

// P9: each two of as many schemas as there may be, in each of as many topics, by Fits.
func TestSafeEverySchema(t *testing.T) {
	schemas := []string{"i", "l", "?i", "<ab>", "<xa+>", "{a:i}", "{a:l,b:s=\"-\"}", "[?l]"}
	for w, writer := range schemas {
		for r, reader := range schemas {
			for topic := 0; topic < api.MaxTopics; topic++ {
				want := 0
				if _, errno := rollout.Fits(writer, reader); errno == api.OK {
					want = 1
				}
				f := oneTopic(1, schemas, service(0, release([3]int{topic, w, -1})), service(1, release(), release([3]int{topic, -1, r})))
				f.Topics = make([]api.Topic, api.MaxTopics)
				wantSafe(t, f, list([2]int{1, 1}), want, api.OK)
				// With the writer gone, what it wrote is there only if its topic keeps it for ever.
				f.Services[0].Releases = append(f.Services[0].Releases, release())
				wantSafe(t, f, list([2]int{0, 1}, [2]int{1, 1}), 1+want, api.OK)
				f.Topics[topic].Keep = 1
				wantSafe(t, f, list([2]int{0, 1}, [2]int{1, 1}), 2, api.OK)
			}
		}
	}
}

// P9: one way about only is not enough: what `i` writes can be read as `l`, but not what `l` writes as `i`.
func TestSafeBothWays(t *testing.T) {
	for _, keep := range []int{0, 1} {
		for _, c := range []struct{ old, new, want int }{{0, 0, 1}, {0, 1, 0}, {1, 0, 0}, {1, 1, 1}} {
			old, new := release([3]int{0, c.old, c.old}), release([3]int{0, c.new, c.new})
			wantSafe(t, oneTopic(keep, []string{"i", "l"}, service(1, old, new)), list([2]int{0, 1}), c.want, api.OK)
			wantSafe(t, oneTopic(keep, []string{"i", "l"}, service(1, release(), new), service(0, old)), list([2]int{0, 1}), c.want, api.OK)
		}
	}
}

// P9: other topics, and pins that neither write nor read, are not asked.
func TestSafeOtherTopics(t *testing.T) {
	f := oneTopic(1, []string{"i", "s"}, service(1, release([3]int{0, 0, 0}), release([3]int{1, 1, 1}, [3]int{0, -1, -1})))
	f.Topics = []api.Topic{{Keep: 1}, {Keep: 0}}
	wantSafe(t, f, list([2]int{0, 1}, [2]int{0, 0}, [2]int{0, 1}), 3, api.OK)
	f.Services[0].Releases[1].Pins[1].Reads = 1
	wantSafe(t, f, list([2]int{0, 1}), 0, api.OK)
}

// P9: what a service had counts in a topic whose Keep is 0, and only there: that of the first configuration, and that of each move before.
func TestSafePast(t *testing.T) {
	for _, keep := range []int{0, 1, 6} {
		past := 0
		if keep > 0 {
			past = 1
		}
		// Its own first release, then one without pins, then one that can't read what the first wrote.
		own := oneTopic(keep, []string{"i", "s"}, service(2, writes(0), release(), reads(1)))
		wantSafe(t, own, list([2]int{0, 1}, [2]int{0, 2}), 1+past, api.OK)
		// The first release of another service, which has moved on.
		other := oneTopic(keep, []string{"i", "s"}, service(1, release(), reads(1)), service(1, writes(0), release()))
		wantSafe(t, other, list([2]int{1, 1}, [2]int{0, 1}), 1+past, api.OK)
		// A release that another service had in between; what is written last clashes with what is read no more, too.
		between := oneTopic(keep, []string{"i", "s"}, service(1, release(), writes(1)), service(2, release(), reads(0), release()))
		wantSafe(t, between, list([2]int{1, 1}, [2]int{1, 2}, [2]int{0, 1}), 2+past, api.OK)
	}
}

// P9: the past is asked in the topics whose Keep is 0, not in the others of the fleet.
func TestSafePastOfOneTopic(t *testing.T) {
	for _, kept := range []int{0, 1} {
		f := api.Fleet{Schemas: []string{"i", "s"}, Topics: []api.Topic{{Keep: 3}, {Keep: 3}}, Services: []api.Service{
			service(2, release([3]int{0, 0, -1}, [3]int{1, 0, -1}), release(), release([3]int{1, -1, 0}, [3]int{0, -1, 1})),
		}}
		f.Topics[kept].Keep = 0
		wantSafe(t, f, list([2]int{0, 1}, [2]int{0, 2}), 1+kept, api.OK)
	}
}

// P9: a release that a service has again gets along with its past.
func TestSafeThereAndBack(t *testing.T) {
	f := exampleFleet(2)
	wantSafe(t, f, list([2]int{1, 1}, [2]int{0, 1}, [2]int{0, 0}, [2]int{1, 0}, [2]int{1, 1}), 5, api.OK)
	wantSafe(t, f, list([2]int{1, 1}, [2]int{0, 1}, [2]int{1, 0}, [2]int{1, 1}), 2, api.OK)
	f.Topics[0].Keep = 0
	wantSafe(t, f, list([2]int{1, 1}, [2]int{1, 0}, [2]int{1, 1}, [2]int{0, 1}, [2]int{0, 0}), 3, api.OK)
}

// P9: moves that are none, alone, behind others, behind unsafe ones, and ahead of others.
func TestSafeNoMoves(t *testing.T) {
	f := exampleFleet(2)
	f.Services[1].Releases = append(f.Services[1].Releases, reads(1))
	for _, n := range wrongNumbers(3) {
		wantSafe(t, f, list([2]int{n, 0}), 0, api.ErrMoves)
		wantSafe(t, f, list([2]int{n, 1}), 0, api.ErrMoves)
		wantSafe(t, f, list([2]int{1, n}), 0, api.ErrMoves)
		wantSafe(t, f, list([2]int{0, 1}, [2]int{1, 1}, [2]int{1, n}), 0, api.ErrMoves)
		wantSafe(t, f, list([2]int{n, n}, [2]int{1, 1}), 0, api.ErrMoves)
	}
	// There are three of something, but not here.
	wantSafe(t, f, list([2]int{2, 0}), 0, api.ErrMoves)
	wantSafe(t, f, list([2]int{0, 2}), 0, api.ErrMoves)
	wantSafe(t, f, list([2]int{1, 2}), 1, api.OK)
	// The release that the service has, in the configuration that the moves before left.
	wantSafe(t, f, list([2]int{0, 0}), 0, api.ErrMoves)
	wantSafe(t, f, list([2]int{1, 1}, [2]int{1, 1}), 0, api.ErrMoves)
	wantSafe(t, f, list([2]int{0, 1}, [2]int{0, 1}), 0, api.ErrMoves)
	wantSafe(t, f, list([2]int{0, 1}, [2]int{1, 1}, [2]int{0, 0}, [2]int{0, 0}), 0, api.ErrMoves)
	wantSafe(t, f, list([2]int{0, 1}, [2]int{1, 1}, [2]int{0, 0}, [2]int{1, 2}), 0, api.OK)
}

// P9: a first configuration that is not sound, and that ErrMoves goes ahead of it.
func TestSafeStart(t *testing.T) {
	for _, keep := range []int{0, 1} {
		for _, f := range []api.Fleet{
			turned(exampleFleet(keep), func(f *api.Fleet) { f.Services[0].Now = 1 }),
			oneTopic(keep, []string{"i", "l"}, service(0, release([3]int{0, 1, 0}), release())),
			oneTopic(keep, []string{"i", "l"}, service(0, release(), release()), service(0, reads(0)), service(0, writes(1))),
			oneTopic(keep, []string{"i", "l"}, service(0, writes(1), release()), service(0, reads(0)), service(0, release())),
		} {
			wantSafe(t, f, nil, 0, api.ErrStart)
			wantSafe(t, f, list([2]int{0, 1 - f.Services[0].Now}), 0, api.ErrStart)
			wantSafe(t, f, list([2]int{0, f.Services[0].Now}), 0, api.ErrMoves)
			wantSafe(t, f, make([]api.Move, 201), 0, api.ErrMoves)
		}
	}
	// What the services shall have, and releases that are not of the first configuration, are not asked.
	f := oneTopic(1, []string{"i", "s"}, service(1, release(), writes(0), release([3]int{0, 0, 1})), service(1, release(), reads(1)))
	wantSafe(t, f, list([2]int{0, 1}, [2]int{1, 1}), 1, api.OK)
	wantSafe(t, f, list([2]int{0, 2}), 0, api.OK)
}

// thereAndBack makes moves of service 0 between its releases 0 and 1.
func thereAndBack(n int) []api.Move {
	var moves []api.Move
	for k := 0; k < n; k++ {
		moves = append(moves, api.Move{To: 1 - k%2})
	}
	return moves
}

// P9: as many moves as there may be, and more.
func TestSafeManyMoves(t *testing.T) {
	f := oneTopic(0, []string{"i", "s"}, service(1, writes(0), writes(0), reads(1)))
	for _, n := range []int{1, 2, 199, 200} {
		wantSafe(t, f, thereAndBack(n), n, api.OK)
	}
	last := append(thereAndBack(199), api.Move{To: 2})
	wantSafe(t, f, last, 199, api.OK)
	for _, n := range []int{201, 202, 1 << 20} {
		wantSafe(t, f, thereAndBack(n), 0, api.ErrMoves)
		wantSafe(t, f, append(list([2]int{0, 2}, [2]int{0, 0}), thereAndBack(n)...), 0, api.ErrMoves)
	}
}

// move makes one that is mostly one in the fleet.
func (m maker) move(f api.Fleet) api.Move {
	if m.Intn(60) == 0 {
		return api.Move{Service: m.Intn(5) - 1, To: m.Intn(5) - 1}
	}
	s := m.Intn(len(f.Services))
	return api.Move{Service: s, To: m.Intn(len(f.Services[s].Releases))}
}

// moves makes a list in which few are none.
func (m maker) moves(f api.Fleet) []api.Move {
	var moves []api.Move
	for n := m.Intn(10); n > 0; n-- {
		move := m.move(f)
		for try := 0; try < 5; try++ {
			if _, errno := modelSafe(f, append(moves, move)); errno != api.ErrMoves {
				break
			}
			move = m.move(f)
		}
		moves = append(moves, move)
	}
	return moves
}

// P9: fleets and moves made at random.
func TestSafeAsModel(t *testing.T) {
	m := maker{rand.New(rand.NewSource(9))}
	seen := map[api.Errno]int{}
	inside := 0
	for k := 0; k < 4000; k++ {
		f := m.fleet()
		moves := m.moves(f)
		want, errno := modelSafe(f, moves)
		wantSafe(t, f, moves, want, errno)
		seen[errno]++
		if want > 0 && want < len(moves) {
			inside++
		}
	}
	if seen[api.OK] < 400 || seen[api.ErrMoves] < 400 || seen[api.ErrStart] < 400 || inside < 200 {
		t.Errorf("too few of some answer: %v, %d", seen, inside)
	}
}

// P1: any numbers in the moves.
func TestSafeAnyNumbers(t *testing.T) {
	numbers := []int{math.MinInt, math.MinInt + 1, -1 << 32, -4, -3, -2, -1, 0, 1, 2, 3, 4, 8, 9, 1 << 32, math.MaxInt/3 + 1, math.MaxInt - 1, math.MaxInt}
	for _, a := range numbers {
		for _, b := range numbers {
			want := 0
			errno := api.ErrMoves
			if (a == 0 || a == 1) && b == 1 {
				want, errno = a, api.OK
			}
			wantSafe(t, exampleFleet(2), list([2]int{a, b}), want, errno)
		}
	}
}
