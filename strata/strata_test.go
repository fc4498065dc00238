package strata_test

import (
	"math"
	"reflect"
	"slices"
	"testing"

	"strata/api"
	"strata/strata"
)

// addFive is the document's t: it adds 5 to key 3, and its result is the new value.
func addFive() api.Txn {
	return api.Txn{Reads: []int{3}, Writes: []int{3}, Code: []api.Instr{
		{Op: api.Load, A: 0, B: 0},
		{Op: api.Set, A: 1, B: 5},
		{Op: api.Add, A: 0, B: 0, C: 1},
		{Op: api.Store, A: 0, B: 0},
	}}
}

// copyOver is the document's u: key 4 becomes what key 3 is, if that is not below 0.
func copyOver() api.Txn {
	return api.Txn{Reads: []int{3}, Writes: []int{4}, Code: []api.Instr{
		{Op: api.Load, A: 0, B: 0},
		{Op: api.Less, A: 1, B: 0, C: 2},
		{Op: api.Skip, A: 1, B: 1},
		{Op: api.Abort},
		{Op: api.Store, A: 0, B: 0},
	}}
}

// writing is a transaction that writes so many keys.
func writing(keys int) api.Txn {
	return api.Txn{Writes: []int{20, 21, 22, 23, 0, 1}[:keys]}
}

func begin(t *testing.T, parts int, doers int, room int) *strata.Strata {
	t.Helper()
	s, e := strata.New(parts, doers, room)
	if s == nil || e != api.OK {
		t.Fatalf("P4: New(%d, %d, %d): %v, %d", parts, doers, room, s, e)
	}
	return s
}

func wantSubmit(t *testing.T, s *strata.Strata, txn api.Txn, number int, want api.Errno) {
	t.Helper()
	if n, e := s.Submit(txn); n != number || e != want {
		t.Errorf("P5: Submit: %d, %d, want %d, %d", n, e, number, want)
	}
}

func wantCut(t *testing.T, s *strata.Strata, want int) {
	t.Helper()
	if n := s.Cut(); n != want {
		t.Errorf("P6: Cut: %d, want %d", n, want)
	}
}

func wantShow(t *testing.T, s *strata.Strata, want api.State) {
	t.Helper()
	if got := s.Show(); got != want {
		t.Errorf("P4: Show: %+v, want %+v", got, want)
	}
}

// refused is a transaction for each fault that Check tells.
func refused() []struct {
	txn  api.Txn
	want api.Errno
} {
	return []struct {
		txn  api.Txn
		want api.Errno
	}{
		{api.Txn{Writes: []int{1, 2, 3, 4, 5, 6, 7}}, api.ErrLong},
		{api.Txn{Writes: []int{24}}, api.ErrKey},
		{api.Txn{Writes: []int{3, 3}}, api.ErrTwice},
		{api.Txn{Writes: []int{3}, Code: []api.Instr{{}}}, api.ErrCode},
	}
}

// The document's first example.
func TestCheckExample(t *testing.T) {
	change := func(f func(txn *api.Txn)) api.Txn {
		txn := addFive()
		f(&txn)
		return txn
	}
	for i, c := range []struct {
		txn  api.Txn
		want api.Errno
	}{
		{addFive(), api.OK},
		{copyOver(), api.OK},
		{change(func(txn *api.Txn) { txn.Reads[0] = 24 }), api.ErrKey},
		{change(func(txn *api.Txn) { txn.Writes[0] = 24 }), api.ErrKey},
		{change(func(txn *api.Txn) { txn.Writes = []int{3, 3} }), api.ErrTwice},
		{change(func(txn *api.Txn) { txn.Code[0].B = 1 }), api.ErrCode},
		{change(func(txn *api.Txn) { txn.Code[2].C = 6 }), api.ErrCode},
		{change(func(txn *api.Txn) { txn.Code[0] = api.Instr{Op: api.Skip} }), api.ErrCode},
		{change(func(txn *api.Txn) { txn.Code[0] = api.Instr{Op: api.Abort, A: 1} }), api.ErrCode},
	} {
		if e := strata.Check(c.txn); e != c.want {
			t.Errorf("P3: case %d: %d, want %d", i, e, c.want)
		}
	}
	for _, c := range refused() {
		if e := strata.Check(c.txn); e != c.want {
			t.Errorf("P3: %+v: %d, want %d", c.txn, e, c.want)
		}
	}
}

// Every mixture of the edges of New's three numbers.
func TestNewSizes(t *testing.T) {
	for _, parts := range []int{math.MinInt, -1, 0, 1, 2, 7, 8, 9, math.MaxInt} {
		for _, doers := range []int{math.MinInt, -1, 0, 1, 2, 5, 6, 7, math.MaxInt} {
			for _, room := range []int{math.MinInt, -1, 0, 1, 499, 500, 501, math.MaxInt} {
				may := 1 <= parts && parts <= 8 && 1 <= doers && doers <= 6 && 0 <= room && room <= 500
				s, e := strata.New(parts, doers, room)
				if may && (s == nil || e != api.OK) || !may && (s != nil || e != api.ErrSize) {
					t.Errorf("P4: New(%d, %d, %d): %v, %d", parts, doers, room, s, e)
				}
				if s != nil {
					wantShow(t, s, api.State{})
				}
			}
		}
	}
}

// The document's second example.
func TestSubmitExample(t *testing.T) {
	s := begin(t, 2, 2, 3)
	wantSubmit(t, s, addFive(), 1, api.OK)
	wantSubmit(t, s, addFive(), 2, api.OK)
	wantSubmit(t, s, copyOver(), 3, api.OK)
	wantSubmit(t, s, addFive(), 0, api.ErrFull)
	wantShow(t, s, api.State{Txns: 3, Taken: 3})
	if s.Step(1) {
		t.Error("P7: a step with a batch that is open")
	}
	wantCut(t, s, 1)
	wantCut(t, s, 1)
	wantShow(t, s, api.State{Txns: 3, Batches: 1, Taken: 3})
}

// A transaction comes in while the room is just enough, and does not where it is one too little.
func TestSubmitRoom(t *testing.T) {
	for room := range 14 {
		for keys := range 7 {
			s := begin(t, 1, 1, room)
			first := min(room, 6)
			wantSubmit(t, s, writing(first), 1, api.OK)
			if first+keys <= room {
				wantSubmit(t, s, writing(keys), 2, api.OK)
				wantShow(t, s, api.State{Txns: 2, Taken: first + keys})
			} else {
				wantSubmit(t, s, writing(keys), 0, api.ErrFull)
				wantShow(t, s, api.State{Txns: 1, Taken: first})
			}
		}
	}
}

// Keys that are read take no room; nor does a written key take it by what the code does.
func TestOnlyWrittenKeysTakeRoom(t *testing.T) {
	s := begin(t, 1, 1, 2)
	wantSubmit(t, s, api.Txn{Reads: []int{0, 1, 2, 3, 4, 5}}, 1, api.OK)
	wantSubmit(t, s, api.Txn{Writes: []int{7, 8}, Code: []api.Instr{{Op: api.Abort}}}, 2, api.OK)
	wantSubmit(t, s, api.Txn{Writes: []int{7}, Code: []api.Instr{{Op: api.Erase}, {Op: api.Erase}}}, 0, api.ErrFull)
	wantShow(t, s, api.State{Txns: 2, Taken: 2})
}

func TestSubmitGreatestRoom(t *testing.T) {
	s := begin(t, 8, 6, 500)
	for n := 1; n <= 83; n++ {
		wantSubmit(t, s, writing(6), n, api.OK)
	}
	wantSubmit(t, s, writing(3), 0, api.ErrFull)
	wantSubmit(t, s, writing(2), 84, api.OK)
	wantSubmit(t, s, writing(1), 0, api.ErrFull)
	wantSubmit(t, s, writing(0), 85, api.OK)
	wantShow(t, s, api.State{Txns: 85, Batches: 14, Taken: 500})
}

func TestSubmitMany(t *testing.T) {
	s := begin(t, 3, 2, 1)
	wantSubmit(t, s, writing(1), 1, api.OK)
	for n := 2; n <= 150; n++ {
		wantSubmit(t, s, api.Txn{}, n, api.OK)
	}
	full := api.State{Txns: 150, Batches: 25, Taken: 1}
	wantShow(t, s, full)
	wantSubmit(t, s, api.Txn{}, 0, api.ErrMany)
	wantSubmit(t, s, writing(6), 0, api.ErrMany)
	for _, c := range refused() {
		wantSubmit(t, s, c.txn, 0, c.want)
	}
	wantShow(t, s, full)
	wantCut(t, s, 25)
}

// With every batch cut behind its only transaction there are as many batches as transactions.
func TestCutBehindEach(t *testing.T) {
	s := begin(t, 1, 1, 0)
	wantCut(t, s, 0)
	for n := 1; n <= 150; n++ {
		wantSubmit(t, s, api.Txn{}, n, api.OK)
		wantShow(t, s, api.State{Txns: n, Batches: n - 1})
		wantCut(t, s, n)
		wantCut(t, s, n)
	}
}

// The Submit that fills a batch closes it; a Cut begins the count anew.
func TestBatchIsFilled(t *testing.T) {
	s := begin(t, 1, 1, 0)
	wantSubmit(t, s, api.Txn{}, 1, api.OK)
	wantCut(t, s, 1)
	for n := 2; n <= 6; n++ {
		wantSubmit(t, s, api.Txn{}, n, api.OK)
		wantShow(t, s, api.State{Txns: n, Batches: 1})
	}
	wantSubmit(t, s, api.Txn{}, 7, api.OK)
	wantShow(t, s, api.State{Txns: 7, Batches: 2})
	wantCut(t, s, 2)
}

// A transaction that is refused has no number, takes no room and fills no batch.
func TestRefusedLeavesNoTrace(t *testing.T) {
	s := begin(t, 1, 1, 5)
	for n := 1; n <= 5; n++ {
		for _, c := range refused() {
			wantSubmit(t, s, c.txn, 0, c.want)
		}
		wantSubmit(t, s, writing(6), 0, api.ErrFull)
		wantShow(t, s, api.State{Txns: n - 1, Taken: n - 1})
		wantSubmit(t, s, writing(1), n, api.OK)
	}
	wantSubmit(t, s, writing(1), 0, api.ErrFull)
	wantShow(t, s, api.State{Txns: 5, Taken: 5})
	wantSubmit(t, s, writing(0), 6, api.OK)
	wantShow(t, s, api.State{Txns: 6, Batches: 1, Taken: 5})
}

func TestRefusedIntoEmptyStore(t *testing.T) {
	s := begin(t, 1, 1, 0)
	wantSubmit(t, s, writing(1), 0, api.ErrFull)
	wantCut(t, s, 0)
	wantShow(t, s, api.State{})
}

// What Check finds comes ahead of a room that is too little.
func TestFaultAheadOfRoom(t *testing.T) {
	s := begin(t, 1, 1, 0)
	for _, c := range refused() {
		wantSubmit(t, s, c.txn, 0, c.want)
	}
}

// roomy is a transaction whose lists have spare room behind them, and the lists with that room.
func roomy(txn api.Txn) (given api.Txn, whole api.Txn) {
	whole.Reads = append(slices.Clone(txn.Reads), 97, 98, 99)
	whole.Writes = append(slices.Clone(txn.Writes), 97, 98, 99)
	whole.Code = append(slices.Clone(txn.Code), api.Instr{Op: 97}, api.Instr{Op: 98}, api.Instr{Op: 99})
	given.Reads = whole.Reads[:len(txn.Reads)]
	given.Writes = whole.Writes[:len(txn.Writes)]
	given.Code = whole.Code[:len(txn.Code)]
	return given, whole
}

// Neither a list nor its spare room is written into, whether the transaction is taken or refused.
func TestListsStayAsTheyWere(t *testing.T) {
	txns := []api.Txn{{}, addFive(), copyOver(), writing(6), {Reads: []int{9, 2, 7}, Writes: []int{8, 1, 6}}}
	for _, c := range refused() {
		txns = append(txns, c.txn)
	}
	for _, room := range []int{0, 500} {
		s := begin(t, 2, 2, room)
		for _, txn := range txns {
			given, whole := roomy(txn)
			_, before := roomy(txn)
			strata.Check(given)
			s.Submit(given)
			s.Cut()
			if !reflect.DeepEqual(whole, before) {
				t.Errorf("P2: %+v became %+v", before, whole)
			}
		}
	}
}

// The spare room of a list does not count, nor does it matter whether an empty list is nil.
func TestSpareRoomIsNotSeen(t *testing.T) {
	s := begin(t, 1, 1, 2)
	given, _ := roomy(addFive())
	wantSubmit(t, s, given, 1, api.OK)
	given, _ = roomy(api.Txn{})
	wantSubmit(t, s, given, 2, api.OK)
	wantSubmit(t, s, api.Txn{Reads: []int{}, Writes: []int{}, Code: []api.Instr{}}, 3, api.OK)
	wantShow(t, s, api.State{Txns: 3, Taken: 1})
}

// A list may be handed in again, changed, without a trace on what came in ahead.
func TestListsHandedInAgain(t *testing.T) {
	s := begin(t, 1, 1, 3)
	given := addFive()
	wantSubmit(t, s, given, 1, api.OK)
	given.Writes[0], given.Code[0].Op = 24, 99
	wantSubmit(t, s, given, 0, api.ErrKey)
	given.Writes[0] = 4
	wantSubmit(t, s, given, 0, api.ErrCode)
	given.Code[0].Op = api.Has
	wantSubmit(t, s, given, 2, api.OK)
	wantShow(t, s, api.State{Txns: 2, Taken: 2})
}

func TestStoresAreApart(t *testing.T) {
	a, b := begin(t, 1, 1, 2), begin(t, 1, 1, 4)
	wantSubmit(t, a, writing(2), 1, api.OK)
	wantSubmit(t, a, writing(1), 0, api.ErrFull)
	wantShow(t, b, api.State{})
	wantCut(t, b, 0)
	wantCut(t, a, 1)
	wantSubmit(t, b, writing(4), 1, api.OK)
	wantShow(t, a, api.State{Txns: 1, Batches: 1, Taken: 2})
	wantShow(t, b, api.State{Txns: 1, Taken: 4})
}

// How many parts and doers there are is not seen by what comes in.
func TestSizesAreNotSeen(t *testing.T) {
	for parts := 1; parts <= api.MaxParts; parts++ {
		for doers := 1; doers <= api.MaxDoers; doers++ {
			s := begin(t, parts, doers, 8)
			for n := 1; n <= 8; n++ {
				wantSubmit(t, s, addFive(), n, api.OK)
			}
			wantSubmit(t, s, addFive(), 0, api.ErrFull)
			wantCut(t, s, 2)
			wantShow(t, s, api.State{Txns: 8, Batches: 2, Taken: 8})
		}
	}
}

// The numbers that the document gives to errors, limits and operations.
func TestNumbers(t *testing.T) {
	errors := []api.Errno{api.OK, api.ErrSize, api.ErrLong, api.ErrKey, api.ErrTwice, api.ErrCode, api.ErrMany, api.ErrFull, api.ErrUnknown, api.ErrNotReady, api.ErrCollected}
	for i, e := range errors {
		if e != api.Errno(i) {
			t.Errorf("error %d is %d", i, e)
		}
	}
	limits := []int{api.MaxParts, api.MaxDoers, api.MaxRoom, api.MaxKeys, api.MaxSet, api.MaxCode, api.Regs, api.MaxBatch, api.MaxTxns}
	if !slices.Equal(limits, []int{8, 6, 500, 24, 6, 30, 6, 6, 150}) {
		t.Errorf("limits: %v", limits)
	}
	operations := []int{api.Set, api.Add, api.Sub, api.Mul, api.Less, api.Load, api.Has, api.Store, api.Erase, api.Skip, api.Abort}
	for i, op := range operations {
		if op != i+1 {
			t.Errorf("operation %d is %d", i+1, op)
		}
	}
}
