package strata_test

import (
	"fmt"
	"math"
	"testing"

	"strata/api"
	"strata/strata"
)

func wantCollect(t *testing.T, s *strata.Strata, want int) {
	t.Helper()
	if n := s.Collect(); n != want {
		t.Errorf("P12: Collect: %d, want %d", n, want)
	}
}

// wantRoom: so much room is taken, and so many versions there are.
func wantRoom(t *testing.T, s *strata.Strata, taken int, live int) {
	t.Helper()
	if state := s.Show(); state.Taken != taken || state.Live != live {
		t.Errorf("P4, P12: taken %d, live %d, want %d, %d", state.Taken, state.Live, taken, live)
	}
}

// put makes keys have a value.
func put(value int, keys ...int) api.Txn {
	txn := api.Txn{Writes: keys, Code: []api.Instr{{Op: api.Set, A: 0, B: value}}}
	for i := range keys {
		txn.Code = append(txn.Code, api.Instr{Op: api.Store, A: i, B: 0})
	}
	return txn
}

// erase makes a key have none.
func erase(key int) api.Txn {
	return api.Txn{Writes: []int{key}, Code: []api.Instr{{Op: api.Erase, A: 0}}}
}

// undone would have given the key a value, were it not aborted.
func undone(key int) api.Txn {
	txn := put(99, key)
	txn.Code = append(txn.Code, api.Instr{Op: api.Abort})
	return txn
}

// silent writes the key but says nothing of it.
func silent(key int) api.Txn {
	return api.Txn{Writes: []int{key}, Code: []api.Instr{{Op: api.Set, A: 0, B: 98}}}
}

// look has as its result 1000 times whether the key has a value, and the value.
func look(key int) api.Txn {
	return api.Txn{Reads: []int{key}, Code: []api.Instr{
		{Op: api.Has, A: 0, B: 0},
		{Op: api.Set, A: 1, B: 1000},
		{Op: api.Mul, A: 0, B: 0, C: 1},
		{Op: api.Load, A: 1, B: 0},
		{Op: api.Add, A: 0, B: 0, C: 1},
	}}
}

// submitAll takes transactions, the first of them with the number first, and closes the batch.
func submitAll(t *testing.T, s *strata.Strata, first int, txns ...api.Txn) {
	t.Helper()
	for i, txn := range txns {
		wantSubmit(t, s, txn, first+i, api.OK)
	}
	s.Cut()
}

// ran is a store in which these transactions are done.
func ran(t *testing.T, parts int, doers int, txns ...api.Txn) *strata.Strata {
	t.Helper()
	s := begin(t, parts, doers, 500)
	submitAll(t, s, 1, txns...)
	s.Run()
	return s
}

// The document's fourth example.
func TestCollectExample(t *testing.T) {
	s := example(t)
	s.Run()
	wantOutcome(t, s)
	wantCollect(t, s, 1)
	wantShow(t, s, api.State{Txns: 3, Batches: 1, Ready: 1, Done: 3, Mark: 3, Taken: 2, Live: 2})
	wantSubmit(t, s, addFive(), 4, api.OK)
	wantStep(t, s, false, 4)
	wantSubmit(t, s, addFive(), 0, api.ErrFull)
	wantResult(t, s, 1, api.Result{Out: 5}, api.OK)
	wantRead(t, s, 3, 3, 10, true, api.OK)
	wantRead(t, s, 4, 3, 10, true, api.OK)
	wantRead(t, s, 4, 2, 0, false, api.ErrCollected)
}

// There is nothing to collect where no batch is closed and done, and where each key has one version.
func TestNothingToCollect(t *testing.T) {
	s := begin(t, 2, 2, 9)
	nothing := func(state api.State) {
		t.Helper()
		wantStep(t, s, false, 4)
		wantCollect(t, s, 0)
		wantShow(t, s, state)
	}
	nothing(api.State{})
	for n := 1; n <= 5; n++ {
		wantSubmit(t, s, put(n, n), n, api.OK)
		nothing(api.State{Txns: n, Taken: n})
	}
	wantCut(t, s, 1)
	nothing(api.State{Txns: 5, Batches: 1, Taken: 5})
	s.Run()
	nothing(api.State{Txns: 5, Batches: 1, Ready: 1, Done: 5, Mark: 5, Taken: 5, Live: 5})
	wantSubmit(t, s, put(6, 1, 2), 6, api.OK)
	nothing(api.State{Txns: 6, Batches: 1, Ready: 1, Done: 5, Mark: 5, Taken: 7, Live: 5})
	wantCut(t, s, 2)
	wantStep(t, s, true, 0, 1)
	nothing(api.State{Txns: 6, Batches: 2, Ready: 2, Done: 5, Mark: 5, Taken: 7, Live: 7})
	s.Run()
	wantCollect(t, s, 2)
	nothing(api.State{Txns: 6, Batches: 2, Ready: 2, Done: 6, Mark: 6, Taken: 5, Live: 5})
}

// Each step is for one key, the least that has more than one version, whoever's business it is: with each number of parts the keys have different numbers of versions, so that the room tells which one it was.
func TestLeastKeyFirst(t *testing.T) {
	for parts := 1; parts <= api.MaxParts; parts++ {
		s := begin(t, parts, 2, 500)
		versions := map[int]int{23: 2, 16: 7, 15: 3, 9: 1, 8: 5, 7: 4, 1: 6, 0: 8}
		n, all := 0, 0
		for round := range 8 {
			for _, key := range []int{16, 0, 23, 9, 7, 15, 1, 8} {
				if round < versions[key] {
					n++
					wantSubmit(t, s, put(100*key+round, key), n, api.OK)
					all++
				}
			}
		}
		wantCut(t, s, 6)
		s.Run()
		wantRoom(t, s, all, all)
		for _, key := range []int{0, 1, 7, 8, 15, 16, 23} {
			wantStep(t, s, true, parts+2)
			all -= versions[key] - 1
			wantRoom(t, s, all, all)
			for key, many := range versions {
				wantRead(t, s, key, n, 100*key+many-1, true, api.OK)
			}
		}
		wantStep(t, s, false, parts+2)
		wantRoom(t, s, len(versions), len(versions))
	}
}

// Collect does what the collector's steps do one by one, and tells of all that went.
func TestCollectIsSteps(t *testing.T) {
	for parts := 1; parts <= api.MaxParts; parts++ {
		for first := range 5 {
			txns := []api.Txn{put(1, 0, 5, 9), put(2, 5, 9), put(3, 9, 23), erase(23), undone(0)}
			s := ran(t, parts, 1, txns...)
			for step := range first {
				wantStep(t, s, step < 4, parts+1)
			}
			wantCollect(t, s, []int{5, 4, 3, 1, 0}[first])
			wantCollect(t, s, 0)
			wantStep(t, s, false, parts+1)
			wantRoom(t, s, 4, 4)
			wantRead(t, s, 0, 5, 1, true, api.OK)
			wantRead(t, s, 5, 5, 2, true, api.OK)
			wantRead(t, s, 9, 5, 3, true, api.OK)
			wantRead(t, s, 23, 5, 0, false, api.OK)
		}
	}
}

// Numbers beyond the collector's are those of no worker, also while there is something to collect.
func TestNoWorkerBehindCollector(t *testing.T) {
	for _, size := range [][2]int{{1, 1}, {2, 3}, {8, 6}} {
		s := ran(t, size[0], size[1], put(1, 3), put(2, 3))
		collector := size[0] + size[1]
		wantStep(t, s, false, math.MinInt, -collector, -1, collector+1, collector+2, 2*collector, math.MaxInt)
		wantStep(t, s, false, collector-1, 0)
		wantRoom(t, s, 2, 2)
		wantStep(t, s, true, collector)
		wantRoom(t, s, 1, 1)
	}
}

// What a key has stays, whatever its last version is: said or passed over, with a value, with 0, with none, or with nothing ever said. Read tells it, and so do Load and Has of transactions behind, by steps and by a run, and behind collections that follow.
func TestWhatTheKeyHasStays(t *testing.T) {
	for name, c := range map[string]struct {
		txns  []api.Txn
		value int
		there bool
	}{
		"said":                  {[]api.Txn{put(1, 3), put(2, 3)}, 2, true},
		"said behind undone":    {[]api.Txn{put(1, 3), undone(3), put(2, 3)}, 2, true},
		"undone":                {[]api.Txn{put(1, 3), put(2, 3), undone(3)}, 2, true},
		"silent":                {[]api.Txn{put(1, 3), put(2, 3), silent(3)}, 2, true},
		"without code":          {[]api.Txn{put(1, 3), put(2, 3), {Writes: []int{3}}}, 2, true},
		"several passed over":   {[]api.Txn{put(7, 3), silent(3), undone(3), {Writes: []int{3}}, silent(3)}, 7, true},
		"a value of 0":          {[]api.Txn{put(1, 3), put(0, 3)}, 0, true},
		"passed over onto 0":    {[]api.Txn{put(1, 3), put(0, 3), undone(3)}, 0, true},
		"below 0":               {[]api.Txn{put(1, 3), put(-5, 3), silent(3)}, -5, true},
		"erased":                {[]api.Txn{put(1, 3), erase(3)}, 0, false},
		"passed over onto none": {[]api.Txn{put(1, 3), erase(3), undone(3)}, 0, false},
		"erased, never there":   {[]api.Txn{erase(3), erase(3)}, 0, false},
		"put behind erased":     {[]api.Txn{put(1, 3), erase(3), put(4, 3), silent(3)}, 4, true},
		"never said":            {[]api.Txn{silent(3), undone(3)}, 0, false},
	} {
		t.Run(name, func(t *testing.T) {
			out := c.value
			if c.there {
				out += 1000
			}
			for parts := 1; parts <= api.MaxParts; parts++ {
				s := ran(t, parts, 1, c.txns...)
				last := len(c.txns)
				wantRead(t, s, 3, last, c.value, c.there, api.OK)
				wantCollect(t, s, last-1)
				wantRoom(t, s, 1, 1)
				wantRead(t, s, 3, last, c.value, c.there, api.OK)
				submitAll(t, s, last+1, look(3), undone(3), look(3))
				s.Run()
				wantResult(t, s, last+1, api.Result{Out: out}, api.OK)
				wantResult(t, s, last+3, api.Result{Out: out}, api.OK)
				wantStep(t, s, true, parts+1)
				wantStep(t, s, false, parts+1)
				wantRead(t, s, 3, last+3, c.value, c.there, api.OK)
				submitAll(t, s, last+4, look(3))
				for worker := range parts {
					wantStep(t, s, true, worker)
				}
				for range 1 + len(look(3).Code) {
					wantStep(t, s, true, parts)
				}
				wantResult(t, s, last+4, api.Result{Out: out}, api.OK)
				wantRead(t, s, 3, last+4, c.value, c.there, api.OK)
				wantRoom(t, s, 1, 1)
			}
		})
	}
}

// Versions above the mark stay, even those of transactions that have ended: behind them one can read, and no batch that is not done counts for the mark.
func TestAboveTheMarkNothingGoes(t *testing.T) {
	s := begin(t, 1, 2, 20)
	submitAll(t, s, 1, addFive(), addFive(), addFive())
	submitAll(t, s, 4, addFive(), addFive())
	for range 5 {
		wantStep(t, s, true, 0)
	}
	ended := func(n int) {
		t.Helper()
		wantStep(t, s, true, 1, 1, 1, 1, 1)
		wantResult(t, s, n, api.Result{Out: 5 * n}, api.OK)
	}
	ended(1)
	ended(2)
	wantCollect(t, s, 0)
	wantRead(t, s, 3, 0, 0, false, api.OK)
	wantRead(t, s, 3, 1, 5, true, api.OK)
	wantRead(t, s, 3, 2, 10, true, api.OK)
	ended(3)
	ended(4)
	wantStep(t, s, true, 3)
	wantStep(t, s, false, 3)
	wantShow(t, s, api.State{Txns: 5, Batches: 2, Ready: 2, Done: 4, Mark: 3, Taken: 3, Live: 3})
	wantRead(t, s, 3, 2, 0, false, api.ErrCollected)
	wantRead(t, s, 3, 3, 15, true, api.OK)
	wantRead(t, s, 3, 4, 20, true, api.OK)
	ended(5)
	wantCollect(t, s, 2)
	wantRead(t, s, 3, 5, 25, true, api.OK)
}

// The batch ahead holds the mark back: that all of a batch behind it has ended frees nothing.
func TestMarkWaitsForBatchAhead(t *testing.T) {
	s := begin(t, 1, 2, 20)
	submitAll(t, s, 1, put(1, 3), put(2, 3))
	submitAll(t, s, 3, put(3, 3), put(4, 3))
	wantStep(t, s, true, 0, 0, 0, 0)
	wantStep(t, s, true, 1, 2, 2, 2, 2, 2, 2, 2, 2, 2)
	wantResult(t, s, 4, api.Result{Out: 4}, api.OK)
	wantShow(t, s, api.State{Txns: 4, Batches: 2, Ready: 2, Taken: 4, Live: 4})
	wantCollect(t, s, 0)
	wantStep(t, s, true, 1, 1)
	wantShow(t, s, api.State{Txns: 4, Batches: 2, Ready: 2, Done: 4, Mark: 4, Taken: 4, Live: 4})
	wantCollect(t, s, 3)
	wantRead(t, s, 3, 4, 4, true, api.OK)
}

// Placeholders stay, and transactions that no maker has dealt with, or that lie in the open batch, keep their room.
func TestRoomOfOthersStays(t *testing.T) {
	s := ran(t, 2, 2, put(1, 3), put(2, 3))
	submitAll(t, s, 3, put(3, 3, 4), put(4, 3, 4))
	wantSubmit(t, s, put(5, 3), 5, api.OK)
	wantStep(t, s, true, 0, 0, 1)
	wantRoom(t, s, 7, 5)
	wantStep(t, s, true, 4)
	wantStep(t, s, false, 4)
	wantRoom(t, s, 6, 4)
	wantRead(t, s, 3, 2, 2, true, api.OK)
	s.Run()
	wantRoom(t, s, 6, 5)
	wantCollect(t, s, 3)
	wantRoom(t, s, 3, 2)
	wantRead(t, s, 3, 4, 4, true, api.OK)
	wantResult(t, s, 5, api.Result{}, api.ErrNotReady)
}

// A doer that is half-way when versions go sees what it would have seen, whichever instruction comes next, also when it waits for a version that is then passed over.
func TestCollectWhileDoersAreHalfway(t *testing.T) {
	for steps := range 6 {
		s := ran(t, 1, 2, put(7, 3), put(8, 3), undone(3))
		submitAll(t, s, 4, undone(3), look(3))
		wantStep(t, s, true, 0, 0, 1, 2)
		wantStep(t, s, false, 2)
		if steps == 0 {
			wantCollect(t, s, 2)
		}
		wantStep(t, s, true, 1, 1, 1)
		for i := range 5 {
			if i == steps-1 {
				wantStep(t, s, true, 3)
				wantStep(t, s, false, 3)
			}
			wantStep(t, s, true, 2)
		}
		wantResult(t, s, 5, api.Result{Out: 1008}, api.OK)
		wantRead(t, s, 3, 5, 8, true, api.OK)
	}
}

// Room that has become free may be taken again, all of it and no more.
func TestRoomIsTakenAgain(t *testing.T) {
	for spare := range 6 {
		s := begin(t, 2, 1, 5)
		for n := 1; n <= 5; n++ {
			wantSubmit(t, s, put(n, max(n, spare)), n, api.OK)
		}
		wantCut(t, s, 1)
		s.Run()
		wantSubmit(t, s, writing(1), 0, api.ErrFull)
		free := max(spare-1, 0)
		wantCollect(t, s, free)
		wantSubmit(t, s, writing(free+1), 0, api.ErrFull)
		wantSubmit(t, s, writing(free), 6, api.OK)
		wantSubmit(t, s, writing(1), 0, api.ErrFull)
		wantShow(t, s, api.State{Txns: 6, Batches: 1, Ready: 1, Done: 5, Mark: 5, Taken: 5, Live: 5 - free})
	}
}

// As many transactions as there may be, in a room for one batch; and to have collected does not let more come in.
func TestLittleRoomForAll(t *testing.T) {
	s := begin(t, 8, 6, 7)
	for n := 1; n <= 150; n++ {
		wantSubmit(t, s, addFive(), n, api.OK)
		if n%6 != 0 {
			continue
		}
		s.Run()
		wantResult(t, s, n, api.Result{Out: 5 * n}, api.OK)
		wantCollect(t, s, min(n-1, 6))
		wantShow(t, s, api.State{Txns: n, Batches: n / 6, Ready: n / 6, Done: n, Mark: n, Taken: 1, Live: 1})
		wantRead(t, s, 3, n, 5*n, true, api.OK)
	}
	wantSubmit(t, s, api.Txn{}, 0, api.ErrMany)
	for n := 1; n <= 150; n++ {
		wantResult(t, s, n, api.Result{Out: 5 * n}, api.OK)
	}
}

// All keys, all room: of each key one version stays.
func TestCollectAtTheLimits(t *testing.T) {
	for parts := 1; parts <= api.MaxParts; parts++ {
		s := begin(t, parts, 6, 500)
		n := 0
		for taken := 6; taken <= 500; taken += 6 {
			first := 6 * (n % 4)
			n++
			wantSubmit(t, s, put(n, first, first+1, first+2, first+3, first+4, first+5), n, api.OK)
		}
		wantCut(t, s, 14)
		s.Run()
		wantRoom(t, s, 498, 498)
		wantCollect(t, s, 498-24)
		wantRoom(t, s, 24, 24)
		for key := range 24 {
			wantRead(t, s, key, n, []int{81, 82, 83, 80}[key/6], true, api.OK)
		}
	}
}

// A transaction that is refused leaves no trace in what is collected.
func TestCollectBesideRefused(t *testing.T) {
	s := begin(t, 2, 2, 2)
	submitAll(t, s, 1, put(1, 3), put(2, 3))
	refuseAll := func() {
		t.Helper()
		for _, c := range refused() {
			wantSubmit(t, s, c.txn, 0, c.want)
		}
		wantSubmit(t, s, writing(3), 0, api.ErrFull)
	}
	s.Run()
	refuseAll()
	wantCollect(t, s, 1)
	refuseAll()
	wantCollect(t, s, 0)
	wantShow(t, s, api.State{Txns: 2, Batches: 1, Ready: 1, Done: 2, Mark: 2, Taken: 1, Live: 1})
	wantRead(t, s, 3, 2, 2, true, api.OK)
	wantSubmit(t, s, addFive(), 3, api.OK)
	wantCut(t, s, 2)
	s.Run()
	wantResult(t, s, 3, api.Result{Out: 7}, api.OK)
}

// To collect in one store is none of another.
func TestCollectionsAreApart(t *testing.T) {
	a, b := ran(t, 1, 1, put(1, 3), put(2, 3)), ran(t, 1, 1, put(1, 3), put(2, 3))
	wantCollect(t, a, 1)
	wantRoom(t, a, 1, 1)
	wantRoom(t, b, 2, 2)
	wantCollect(t, b, 1)
}

// Whether and when versions are collected changes no result and no value.
func TestCollectingChangesNoOutcome(t *testing.T) {
	outcomes := map[string]bool{}
	for every := 1; every <= 9; every++ {
		s := begin(t, 3, 2, 500)
		n := 0
		for n < 48 {
			for _, txn := range []api.Txn{addFive(), undone(3), copyOver(), silent(4), erase(4), look(3), look(4), summing()} {
				n++
				wantSubmit(t, s, txn, n, api.OK)
			}
			s.Cut()
			s.Run()
			if n/8%every == 0 {
				s.Collect()
			}
		}
		told := ""
		for i := 1; i <= n; i++ {
			r, e := s.Result(i)
			told += fmt.Sprint(r, e)
		}
		for key := range 24 {
			value, there, e := s.Read(key, n)
			told += fmt.Sprint(value, there, e)
		}
		outcomes[told] = true
	}
	if len(outcomes) != 1 {
		t.Errorf("P13: %d outcomes", len(outcomes))
	}
}
