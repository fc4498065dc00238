package strata_test

import (
	"math/rand"
	"runtime"
	"sync"
	"testing"
	"time"

	"strata/api"
	"strata/strata"
)

// The document's fourth example, as far as it is of Run: behind the third, with transaction 2 under way.
func TestRunExample(t *testing.T) {
	s := example(t)
	wantStep(t, s, true, 2, 3, 2, 2, 2, 2, 3)
	wantResult(t, s, 2, api.Result{}, api.ErrNotReady)
	s.Run()
	wantOutcome(t, s)
}

// Where nothing is closed, or all is done, a run does nothing.
func TestRunWithoutWork(t *testing.T) {
	for _, size := range [][2]int{{1, 1}, {2, 3}, {8, 6}} {
		s := begin(t, size[0], size[1], 9)
		s.Run()
		wantShow(t, s, api.State{})
		wantSubmit(t, s, addFive(), 1, api.OK)
		s.Run()
		wantShow(t, s, api.State{Txns: 1, Taken: 1})
		wantResult(t, s, 1, api.Result{}, api.ErrNotReady)
		wantCut(t, s, 1)
		for range 3 {
			s.Run()
			wantShow(t, s, api.State{Txns: 1, Batches: 1, Ready: 1, Done: 1, Mark: 1, Taken: 1, Live: 1})
			wantResult(t, s, 1, api.Result{Out: 5}, api.OK)
			wantRead(t, s, 3, 1, 5, true, api.OK)
		}
		for worker := range size[0] + size[1] {
			wantStep(t, s, false, worker)
		}
	}
}

// A run leaves the open batch alone, and the next one goes on where it ended.
func TestRunBehindRun(t *testing.T) {
	s := begin(t, 3, 2, 500)
	for n := 1; n <= 20; n++ {
		wantSubmit(t, s, addFive(), n, api.OK)
		s.Run()
		full := n / 6 * 6
		wantShow(t, s, api.State{Txns: n, Batches: n / 6, Ready: n / 6, Done: full, Mark: full, Taken: n, Live: full})
		wantRead(t, s, 3, full, 5*full, full > 0, api.OK)
	}
	wantCut(t, s, 4)
	s.Run()
	wantResult(t, s, 20, api.Result{Out: 100}, api.OK)
	wantRead(t, s, 3, 20, 100, true, api.OK)
	wantRead(t, s, 3, 19, 0, false, api.ErrCollected)
}

// Behind a run every worker goes on by steps as ever: makers at the next transaction, each doer free to take one.
func TestStepsBehindRun(t *testing.T) {
	s := holding(t, 2, 2, addFive(), addFive())
	wantStep(t, s, true, 2, 3, 2)
	s.Run()
	wantSubmit(t, s, addFive(), 3, api.OK)
	wantSubmit(t, s, copyOver(), 4, api.OK)
	wantStep(t, s, false, 0, 1, 2, 3)
	wantCut(t, s, 2)
	wantStep(t, s, true, 0, 0)
	wantStep(t, s, false, 0, 2)
	wantStep(t, s, true, 1, 1)
	wantStep(t, s, false, 1)
	wantShow(t, s, api.State{Txns: 4, Batches: 2, Ready: 2, Done: 2, Mark: 2, Taken: 4, Live: 4})
	wantStep(t, s, true, 3, 2)
	wantStep(t, s, false, 2)
	wantStep(t, s, true, 3, 3, 3, 3)
	wantResult(t, s, 3, api.Result{Out: 15}, api.OK)
	wantStep(t, s, true, 2, 2, 2, 2)
	wantResult(t, s, 4, api.Result{Out: 15}, api.OK)
	wantStep(t, s, false, 2, 3)
}

// Makers that are not equally far are all brought to the end: no transaction is dealt with twice, or not at all.
func TestRunBehindMakersSteps(t *testing.T) {
	for ahead := range 8 {
		for maker := range 3 {
			s := begin(t, 3, 2, 500)
			for n := 1; n <= 7; n++ {
				wantSubmit(t, s, api.Txn{Writes: []int{0, 1, 2, 3}}, n, api.OK)
			}
			wantCut(t, s, 2)
			for range ahead {
				wantStep(t, s, true, maker)
			}
			s.Run()
			wantStep(t, s, false, 0, 1, 2, 3, 4)
			wantShow(t, s, api.State{Txns: 7, Batches: 2, Ready: 2, Done: 7, Mark: 7, Taken: 28, Live: 28})
		}
	}
}

// With each number of doers, and of steps that one of them made ahead: it ends the transaction that it has, from where it is.
func TestRunBehindDoersSteps(t *testing.T) {
	for doers := 1; doers <= api.MaxDoers; doers++ {
		for worker := 1; worker <= doers; worker++ {
			for steps := range 2 * 5 {
				s := holding(t, 1, doers, addFive(), addFive(), copyOver())
				for range steps {
					wantStep(t, s, true, worker)
				}
				s.Run()
				wantResult(t, s, 1, api.Result{Out: 5}, api.OK)
				wantResult(t, s, 2, api.Result{Out: 10}, api.OK)
				wantResult(t, s, 3, api.Result{Out: 10}, api.OK)
				wantShow(t, s, api.State{Txns: 3, Batches: 1, Ready: 1, Done: 3, Mark: 3, Taken: 3, Live: 3})
			}
		}
	}
}

// Every doer has a transaction that waits for the one ahead of it, in whatever order they took them.
func TestRunWhileAllWait(t *testing.T) {
	r := rand.New(rand.NewSource(9))
	for range 50 {
		var txns []api.Txn
		for range 14 {
			txns = append(txns, addFive())
		}
		s := holding(t, 2, 6, txns...)
		for i, doer := range r.Perm(6) {
			wantStep(t, s, true, 2+doer)
			wantStep(t, s, i == 0, 2+doer)
		}
		s.Run()
		for n := range txns {
			wantResult(t, s, n+1, api.Result{Out: 5 * (n + 1)}, api.OK)
		}
		wantRead(t, s, 3, 14, 70, true, api.OK)
	}
}

// A Load in a run waits for version behind version: those of aborted transactions, of ones without code and of ones that say nothing are passed over.
func TestRunPassesOver(t *testing.T) {
	aborting := api.Txn{Reads: []int{3}, Writes: []int{3}, Code: []api.Instr{{Op: api.Load, A: 0, B: 0}, {Op: api.Store, A: 0, B: 1}, {Op: api.Abort}}}
	silent := api.Txn{Reads: []int{3}, Writes: []int{3}, Code: []api.Instr{{Op: api.Has, A: 0, B: 0}}}
	txns := []api.Txn{silent, aborting, addFive(), aborting, {Writes: []int{3}}, silent, aborting, addFive(), silent, copyOver()}
	want := []api.Result{{}, {Aborted: true}, {Out: 5}, {Aborted: true, Out: 5}, {}, {Out: 1}, {Aborted: true, Out: 5}, {Out: 10}, {Out: 1}, {Out: 10}}
	for parts := 1; parts <= api.MaxParts; parts++ {
		for doers := 1; doers <= api.MaxDoers; doers++ {
			s := begin(t, parts, doers, 500)
			for i, txn := range txns {
				wantSubmit(t, s, txn, i+1, api.OK)
			}
			wantCut(t, s, 2)
			s.Run()
			for i, r := range want {
				wantResult(t, s, i+1, r, api.OK)
			}
			wantRead(t, s, 3, 10, 10, true, api.OK)
			wantRead(t, s, 4, 10, 10, true, api.OK)
		}
	}
}

// summing makes six keys 1 more than their sum, with as much code as there may be.
func summing() api.Txn {
	txn := api.Txn{Reads: []int{0, 1, 2, 3, 4, 5}, Writes: []int{5, 4, 3, 2, 1, 0}, Code: []api.Instr{{Op: api.Set, A: 0, B: 1}}}
	for key := range 6 {
		txn.Code = append(txn.Code, api.Instr{Op: api.Load, A: 1, B: key}, api.Instr{Op: api.Add, A: 0, B: 0, C: 1})
	}
	for len(txn.Code) < api.MaxCode-6 {
		txn.Code = append(txn.Code, api.Instr{Op: api.Has, A: 2, B: 5})
	}
	for key := range 6 {
		txn.Code = append(txn.Code, api.Instr{Op: api.Store, A: key, B: 0})
	}
	return txn
}

// As many transactions and versions as there may be, each waiting for the one ahead, with every number of parts and doers.
func TestRunAtTheLimits(t *testing.T) {
	for parts := 1; parts <= api.MaxParts; parts++ {
		for doers := 1; doers <= api.MaxDoers; doers++ {
			s := begin(t, parts, doers, api.MaxRoom)
			sum := 0
			for n := 1; n <= 83; n++ {
				wantSubmit(t, s, summing(), n, api.OK)
				sum = 6*sum + 1
			}
			wantSubmit(t, s, summing(), 0, api.ErrFull)
			for n := 84; n <= api.MaxTxns; n++ {
				wantSubmit(t, s, api.Txn{Reads: []int{5}, Code: []api.Instr{{Op: api.Load, A: 0, B: 0}}}, n, api.OK)
			}
			wantSubmit(t, s, api.Txn{}, 0, api.ErrMany)
			s.Run()
			wantShow(t, s, api.State{Txns: 150, Batches: 25, Ready: 25, Done: 150, Mark: 150, Taken: 498, Live: 498})
			wantResult(t, s, 83, api.Result{Out: sum}, api.OK)
			wantResult(t, s, 150, api.Result{Out: sum}, api.OK)
			wantRead(t, s, 0, 150, sum, true, api.OK)
		}
	}
}

// Whatever steps were made ahead of it, a run ends all that is closed; and with one processor or several the same comes of it.
func TestDrawnRuns(t *testing.T) {
	defer runtime.GOMAXPROCS(runtime.GOMAXPROCS(0))
	r := rand.New(rand.NewSource(10))
	for i := range 300 {
		runtime.GOMAXPROCS([]int{1, 2, 8}[i%3])
		parts, doers := 1+r.Intn(api.MaxParts), 1+r.Intn(api.MaxDoers)
		p := beginPair(t, parts, doers, 500)
		for range 1 + r.Intn(4) {
			for range r.Intn(30) {
				p.submit(t, drawTxn(r))
			}
			if r.Intn(3) > 0 {
				p.cut(t)
			}
			for range r.Intn(150) {
				p.step(t, r.Intn(parts+doers+1))
			}
			p.run()
			p.compare(t)
			for worker := range parts + doers {
				p.step(t, worker)
			}
			if r.Intn(2) == 0 {
				p.collect(t)
				p.compare(t)
			}
		}
		if t.Failed() {
			return
		}
	}
}

// Stores that run at the same time have nothing to do with one another.
func TestRunsAreApart(t *testing.T) {
	var all sync.WaitGroup
	for seed := range int64(16) {
		r := rand.New(rand.NewSource(seed))
		p := beginPair(t, 1+r.Intn(api.MaxParts), 1+r.Intn(api.MaxDoers), 500)
		all.Go(func() {
			for range 80 {
				p.submit(t, drawTxn(r))
				if r.Intn(12) == 0 {
					p.run()
					p.collect(t)
				}
			}
			p.cut(t)
			p.run()
			p.compare(t)
		})
	}
	all.Wait()
}

// No goroutine stays behind, whatever there was to do.
func TestRunLeavesNoGoroutine(t *testing.T) {
	before := runtime.NumGoroutine()
	for range 50 {
		s := example(t)
		wantStep(t, s, true, 2, 3)
		s.Run()
		s.Run()
		begin(t, 8, 6, 0).Run()
	}
	for range 1000 {
		if runtime.NumGoroutine() <= before {
			return
		}
		time.Sleep(time.Millisecond) // one that has told its end may still be on its way out
	}
	t.Errorf("P11: %d goroutines, %d ahead of the runs", runtime.NumGoroutine(), before)
}

// A transaction that is refused leaves no trace in a run, ahead of it or behind it.
func TestRunBesideRefused(t *testing.T) {
	s := begin(t, 2, 2, 2)
	wantSubmit(t, s, addFive(), 1, api.OK)
	refuseAll := func(s *strata.Strata) {
		for _, c := range refused() {
			wantSubmit(t, s, c.txn, 0, c.want)
		}
		wantSubmit(t, s, writing(2), 0, api.ErrFull)
	}
	refuseAll(s)
	wantCut(t, s, 1)
	s.Run()
	refuseAll(s)
	s.Run()
	wantShow(t, s, api.State{Txns: 1, Batches: 1, Ready: 1, Done: 1, Mark: 1, Taken: 1, Live: 1})
	wantSubmit(t, s, addFive(), 2, api.OK)
	wantCut(t, s, 2)
	s.Run()
	wantResult(t, s, 2, api.Result{Out: 10}, api.OK)
}
