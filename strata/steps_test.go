package strata_test

import (
	"math"
	"testing"

	"strata/api"
	"strata/strata"
)

func wantStep(t *testing.T, s *strata.Strata, want bool, workers ...int) {
	t.Helper()
	for _, w := range workers {
		if s.Step(w) != want {
			t.Errorf("P7, P8, P12: Step(%d) is %v", w, !want)
		}
	}
}

func wantResult(t *testing.T, s *strata.Strata, n int, want api.Result, e api.Errno) {
	t.Helper()
	if r, got := s.Result(n); r != want || got != e {
		t.Errorf("P9: Result(%d): %+v, %d, want %+v, %d", n, r, got, want, e)
	}
}

func wantRead(t *testing.T, s *strata.Strata, key int, n int, value int, there bool, e api.Errno) {
	t.Helper()
	if v, ok, got := s.Read(key, n); v != value || ok != there || got != e {
		t.Errorf("P10: Read(%d, %d): %d, %v, %d, want %d, %v, %d", key, n, v, ok, got, value, there, e)
	}
}

// holding is a store with these transactions, its batches closed, every maker through with them.
func holding(t *testing.T, parts int, doers int, txns ...api.Txn) *strata.Strata {
	t.Helper()
	s := begin(t, parts, doers, 500)
	for i, txn := range txns {
		wantSubmit(t, s, txn, i+1, api.OK)
	}
	s.Cut()
	for part := range parts {
		for range txns {
			wantStep(t, s, true, part)
		}
		wantStep(t, s, false, part)
	}
	return s
}

// example is the document's second example, and the makers' steps of the third.
func example(t *testing.T) *strata.Strata {
	t.Helper()
	s := begin(t, 2, 2, 3)
	wantSubmit(t, s, addFive(), 1, api.OK)
	wantSubmit(t, s, addFive(), 2, api.OK)
	wantSubmit(t, s, copyOver(), 3, api.OK)
	wantCut(t, s, 1)
	wantStep(t, s, true, 0)
	wantStep(t, s, false, 2)
	wantStep(t, s, true, 0, 0)
	wantStep(t, s, false, 0)
	wantStep(t, s, true, 1, 1, 1)
	return s
}

// The document's third example.
func TestStepExample(t *testing.T) {
	s := example(t)
	wantShow(t, s, api.State{Txns: 3, Batches: 1, Ready: 1, Taken: 3, Live: 3})
	wantStep(t, s, true, 2, 3)
	wantStep(t, s, false, 3)
	wantStep(t, s, true, 2, 2, 2, 2)
	wantResult(t, s, 1, api.Result{Out: 5}, api.OK)
	wantStep(t, s, true, 3)
	wantResult(t, s, 2, api.Result{}, api.ErrNotReady)
	wantRead(t, s, 3, 1, 5, true, api.OK)
	wantRead(t, s, 3, 2, 0, false, api.ErrNotReady)
	wantRead(t, s, 3, 0, 0, false, api.OK)
	wantRead(t, s, 3, 4, 0, false, api.ErrUnknown)
}

// wantOutcome is what the document's fourth example tells of results and values, and of the numbers behind them.
func wantOutcome(t *testing.T, s *strata.Strata) {
	t.Helper()
	wantResult(t, s, 1, api.Result{Out: 5}, api.OK)
	wantResult(t, s, 2, api.Result{Out: 10}, api.OK)
	wantResult(t, s, 3, api.Result{Out: 10}, api.OK)
	wantRead(t, s, 4, 3, 10, true, api.OK)
	wantRead(t, s, 4, 2, 0, false, api.ErrCollected)
	wantShow(t, s, api.State{Txns: 3, Batches: 1, Ready: 1, Done: 3, Mark: 3, Taken: 3, Live: 3})
}

// The outcome of the document's fourth example, reached by steps.
func TestOutcomeExample(t *testing.T) {
	s := example(t)
	for range 14 {
		s.Step(2)
		s.Step(3)
	}
	wantOutcome(t, s)
}

// The document's fifth example.
func TestAbortExample(t *testing.T) {
	s := holding(t, 1, 1, api.Txn{Code: []api.Instr{{Op: api.Set, A: 0, B: -1}, {Op: api.Abort}}})
	wantStep(t, s, true, 1, 1)
	wantResult(t, s, 1, api.Result{}, api.ErrNotReady)
	wantStep(t, s, true, 1)
	wantResult(t, s, 1, api.Result{Aborted: true, Out: -1}, api.OK)
	wantStep(t, s, false, 1)
}

// There are no workers but those that the store has, and a store without closed batches has work for none.
func TestNoSuchWorker(t *testing.T) {
	for _, size := range [][2]int{{1, 1}, {2, 3}, {8, 6}} {
		s := begin(t, size[0], size[1], 9)
		wantSubmit(t, s, addFive(), 1, api.OK)
		for worker := -20; worker <= 20; worker++ {
			wantStep(t, s, false, worker)
		}
		wantCut(t, s, 1)
		wantStep(t, s, false, math.MinInt, math.MinInt+1, -size[0], -1, size[0]+size[1]+1, 20, math.MaxInt-1, math.MaxInt)
		wantShow(t, s, api.State{Txns: 1, Batches: 1, Taken: 1})
	}
}

// With every number of parts each maker makes the versions of its own keys, one transaction a step, whether or not that has such keys.
func TestMakersBusiness(t *testing.T) {
	for parts := 1; parts <= api.MaxParts; parts++ {
		s := begin(t, parts, 1, 500)
		live := 0
		for first := 0; first < api.MaxKeys; first += 6 {
			s.Submit(api.Txn{Writes: []int{first + 5, first, first + 3, first + 1, first + 4, first + 2}})
		}
		wantCut(t, s, 1)
		for part := range parts {
			for first := 0; first < api.MaxKeys; first += 6 {
				wantStep(t, s, true, part)
				for key := first; key < first+6; key++ {
					if key%parts == part {
						live++
					}
				}
				ready := 0
				if live == 24 && part == parts-1 && first == 18 {
					ready = 1
				}
				wantShow(t, s, api.State{Txns: 4, Batches: 1, Ready: ready, Taken: 24, Live: live})
			}
			wantStep(t, s, false, part)
		}
		if live != 24 {
			t.Errorf("P7: %d parts: %d versions", parts, live)
		}
	}
}

// Makers deal with what is closed, up to the last of it, and go on when more is closed.
func TestMakersWaitForClosedBatches(t *testing.T) {
	s := begin(t, 2, 1, 9)
	for range 7 {
		s.Submit(addFive())
	}
	for range 6 {
		wantStep(t, s, true, 1)
	}
	wantStep(t, s, false, 1)
	wantShow(t, s, api.State{Txns: 7, Batches: 1, Taken: 7, Live: 6})
	wantCut(t, s, 2)
	wantStep(t, s, true, 1)
	wantStep(t, s, false, 1)
	for n := 1; n <= 7; n++ {
		wantStep(t, s, true, 0)
		wantShow(t, s, api.State{Txns: 7, Batches: 2, Ready: n/6 + n/7, Taken: 7, Live: 7})
	}
	wantStep(t, s, false, 0)
}

// Batches are ready one by one: a doer takes none of a batch with which a maker is not through.
func TestDoersWaitForReadyBatches(t *testing.T) {
	s := begin(t, 1, 2, 0)
	for range 3 {
		s.Submit(api.Txn{})
		s.Submit(api.Txn{})
		s.Cut()
	}
	for batch := 1; batch <= 3; batch++ {
		wantStep(t, s, false, 1, 2)
		wantStep(t, s, true, 0)
		wantStep(t, s, false, 1, 2)
		wantStep(t, s, true, 0)
		wantShow(t, s, api.State{Txns: 6, Batches: 3, Ready: batch, Done: 2*batch - 2, Mark: 2*batch - 2})
		wantStep(t, s, true, 1)
		wantShow(t, s, api.State{Txns: 6, Batches: 3, Ready: batch, Done: 2*batch - 1, Mark: 2*batch - 2})
		wantStep(t, s, true, 2)
		wantShow(t, s, api.State{Txns: 6, Batches: 3, Ready: batch, Done: 2 * batch, Mark: 2 * batch})
	}
}

// A transaction without code ends by being taken; what it writes stays as it was.
func TestWithoutCode(t *testing.T) {
	s := holding(t, 2, 1, addFive(), writing(6), api.Txn{Writes: []int{3}}, copyOver())
	wantStep(t, s, true, 2, 2, 2, 2, 2)
	wantStep(t, s, true, 2)
	wantResult(t, s, 2, api.Result{}, api.OK)
	wantStep(t, s, true, 2)
	wantResult(t, s, 3, api.Result{}, api.OK)
	wantRead(t, s, 3, 3, 5, true, api.OK)
	wantRead(t, s, 20, 3, 0, false, api.OK)
	wantStep(t, s, true, 2, 2, 2, 2)
	wantResult(t, s, 4, api.Result{}, api.ErrNotReady)
	wantStep(t, s, true, 2)
	wantResult(t, s, 4, api.Result{Out: 5}, api.OK)
	wantShow(t, s, api.State{Txns: 4, Batches: 1, Ready: 1, Done: 4, Mark: 4, Taken: 9, Live: 9})
}

// Doers take transactions in the order of their numbers, each once, and may end them in another order.
func TestTakenInOrder(t *testing.T) {
	out := func(n int) api.Txn { return api.Txn{Code: []api.Instr{{Op: api.Set, A: 0, B: n}}} }
	s := holding(t, 1, 3, out(10), out(20), out(30), out(40))
	wantStep(t, s, true, 3, 1, 2)
	wantStep(t, s, true, 2)
	wantResult(t, s, 3, api.Result{Out: 30}, api.OK)
	wantStep(t, s, true, 2, 2)
	wantResult(t, s, 4, api.Result{Out: 40}, api.OK)
	wantStep(t, s, false, 2)
	wantStep(t, s, true, 1)
	wantResult(t, s, 2, api.Result{Out: 20}, api.OK)
	wantStep(t, s, false, 1)
	wantResult(t, s, 1, api.Result{}, api.ErrNotReady)
	wantShow(t, s, api.State{Txns: 4, Batches: 1, Ready: 1})
	wantStep(t, s, true, 3)
	wantStep(t, s, false, 3, 1, 2)
	wantShow(t, s, api.State{Txns: 4, Batches: 1, Ready: 1, Done: 4, Mark: 4})
}

// Has waits as Load does; other instructions, and keys of which nobody has to speak, do not wait.
func TestWhatWaits(t *testing.T) {
	reader := api.Txn{Reads: []int{3, 9}, Writes: []int{3}, Code: []api.Instr{
		{Op: api.Set, A: 0, B: 4},
		{Op: api.Store, A: 0, B: 0},
		{Op: api.Has, A: 1, B: 1},
		{Op: api.Has, A: 0, B: 0},
		{Op: api.Load, A: 1, B: 0},
		{Op: api.Add, A: 0, B: 0, C: 1},
	}}
	s := holding(t, 3, 2, addFive(), reader, addFive())
	wantStep(t, s, true, 3, 4, 4, 4, 4)
	wantStep(t, s, false, 4)
	wantStep(t, s, true, 3, 3, 3)
	wantStep(t, s, false, 4, 4)
	wantStep(t, s, true, 3)
	wantStep(t, s, true, 4, 4)
	wantStep(t, s, true, 3)
	wantStep(t, s, false, 3)
	wantStep(t, s, true, 4)
	wantResult(t, s, 2, api.Result{Out: 6}, api.OK)
	wantStep(t, s, true, 3, 3, 3, 3)
	wantResult(t, s, 3, api.Result{Out: 9}, api.OK)
}

// A doer does not wait for versions of transactions with greater numbers, nor see them.
func TestGreaterNumbersAreNotSeen(t *testing.T) {
	s := holding(t, 1, 2, copyOver(), api.Txn{Writes: []int{3}, Code: []api.Instr{{Op: api.Set, A: 0, B: -2}, {Op: api.Store, A: 0, B: 0}}}, copyOver())
	wantStep(t, s, true, 1, 2, 2, 2)
	wantResult(t, s, 2, api.Result{Out: -2}, api.OK)
	wantStep(t, s, true, 1, 1, 1, 1)
	wantResult(t, s, 1, api.Result{}, api.OK)
	wantStep(t, s, true, 1, 1, 1, 1)
	wantResult(t, s, 3, api.Result{}, api.ErrNotReady)
	wantStep(t, s, true, 1)
	wantResult(t, s, 3, api.Result{Aborted: true, Out: -2}, api.OK)
	wantRead(t, s, 4, 3, 0, true, api.OK)
}

// A version that a waiting Load would see is passed over: the one ahead of it counts, be it there or not yet.
func TestPassedOverWhileWaiting(t *testing.T) {
	aborting := api.Txn{Writes: []int{3}, Code: []api.Instr{{Op: api.Store, A: 0, B: 0}, {Op: api.Abort}}}
	s := holding(t, 1, 3, addFive(), aborting, copyOver())
	wantStep(t, s, true, 1, 2, 3)
	wantStep(t, s, false, 3)
	wantStep(t, s, true, 2, 2)
	wantResult(t, s, 2, api.Result{Aborted: true}, api.OK)
	wantStep(t, s, false, 3)
	wantStep(t, s, true, 1, 1, 1)
	wantStep(t, s, false, 3)
	wantStep(t, s, true, 1)
	wantStep(t, s, true, 3, 3, 3, 3)
	wantResult(t, s, 3, api.Result{Out: 5}, api.OK)
	wantRead(t, s, 3, 3, 5, true, api.OK)
	wantRead(t, s, 4, 3, 5, true, api.OK)
}

// Where several errors of Read apply, the one named first is told, at the least and greatest numbers too.
func TestReadErrors(t *testing.T) {
	s := holding(t, 1, 1, addFive(), addFive())
	s.Submit(addFive())
	for _, n := range []int{math.MinInt, -1, 0, 1, 2, 3, 4, math.MaxInt} {
		for _, key := range []int{math.MinInt, -1, 24, math.MaxInt} {
			wantRead(t, s, key, n, 0, false, api.ErrKey)
		}
	}
	for _, key := range []int{0, 3, 23} {
		for _, n := range []int{math.MinInt, -1, 4, math.MaxInt} {
			wantRead(t, s, key, n, 0, false, api.ErrUnknown)
		}
		for n := 1; n <= 3; n++ {
			wantRead(t, s, key, n, 0, false, api.ErrNotReady)
		}
		wantRead(t, s, key, 0, 0, false, api.OK)
	}
	wantStep(t, s, true, 1, 1, 1, 1, 1)
	wantRead(t, s, 3, 0, 0, false, api.OK)
	wantRead(t, s, 3, 1, 5, true, api.OK)
	wantRead(t, s, 3, 2, 0, false, api.ErrNotReady)
	wantStep(t, s, true, 1, 1, 1, 1, 1)
	wantRead(t, s, 3, 0, 0, false, api.ErrCollected)
	wantRead(t, s, 3, 1, 0, false, api.ErrCollected)
	wantRead(t, s, 3, 2, 10, true, api.OK)
	wantRead(t, s, 23, 2, 0, false, api.OK)
	wantRead(t, s, 3, 3, 0, false, api.ErrNotReady)
}

func TestResultErrors(t *testing.T) {
	empty := begin(t, 1, 1, 0)
	for _, n := range []int{math.MinInt, -1, 0, 1, math.MaxInt} {
		wantResult(t, empty, n, api.Result{}, api.ErrUnknown)
	}
	wantRead(t, empty, 0, 0, 0, false, api.OK)
	wantRead(t, empty, 0, 1, 0, false, api.ErrUnknown)
	s := holding(t, 1, 1, addFive())
	s.Submit(addFive())
	wantStep(t, s, true, 1, 1, 1, 1)
	for _, n := range []int{1, 2} {
		wantResult(t, s, n, api.Result{}, api.ErrNotReady)
	}
	for _, n := range []int{math.MinInt, -1, 0, 3, math.MaxInt} {
		wantResult(t, s, n, api.Result{}, api.ErrUnknown)
	}
	wantStep(t, s, true, 1)
	wantResult(t, s, 1, api.Result{Out: 5}, api.OK)
	wantResult(t, s, 2, api.Result{}, api.ErrNotReady)
}

// To ask changes nothing: a store that is asked all along goes the way of one that is not.
func TestAskingChangesNothing(t *testing.T) {
	asked, quiet := example(t), example(t)
	for range 16 {
		for worker := range 4 {
			for n := -1; n <= 4; n++ {
				asked.Result(n)
				asked.Read(3, n)
				asked.Read(24, n)
			}
			asked.Show()
			asked.Step(9)
			wantStep(t, asked, quiet.Step(worker), worker)
		}
		wantShow(t, asked, quiet.Show())
	}
	wantResult(t, asked, 3, api.Result{Out: 10}, api.OK)
}

// Steps of one store are none of another.
func TestStepsAreApart(t *testing.T) {
	a, b := example(t), example(t)
	wantStep(t, a, true, 2, 2, 2, 2, 2)
	wantResult(t, a, 1, api.Result{Out: 5}, api.OK)
	wantResult(t, b, 1, api.Result{}, api.ErrNotReady)
	wantRead(t, b, 3, 1, 0, false, api.ErrNotReady)
	wantShow(t, b, api.State{Txns: 3, Batches: 1, Ready: 1, Taken: 3, Live: 3})
}
