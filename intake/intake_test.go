package intake

import (
	"reflect"
	"slices"
	"testing"

	"strata/api"
)

func sample() api.Txn {
	return api.Txn{
		Reads:  []int{3, 4},
		Writes: []int{5},
		Code:   []api.Instr{{Op: api.Load, A: 1, B: 1}, {Op: api.Store, B: 1}},
	}
}

// What is kept of a transaction stays as it came in, whatever happens to the lists that were handed in.
func TestListsAreNotKept(t *testing.T) {
	var in Intake
	given := sample()
	in.Add(given)
	given.Reads[1], given.Writes[0], given.Code[1].B = 9, 9, 9
	in.Add(given)
	if !reflect.DeepEqual(in.Txn(1), sample()) {
		t.Errorf("P2: kept %+v, want %+v", in.Txn(1), sample())
	}
	if !reflect.DeepEqual(in.Txn(2), given) {
		t.Errorf("P5: kept %+v, want %+v", in.Txn(2), given)
	}
}

// Of an empty list not even the spare room behind it is kept.
func TestEmptyListsAreNotKept(t *testing.T) {
	var in Intake
	in.Add(api.Txn{Reads: make([]int, 0, 9), Writes: make([]int, 0, 9), Code: make([]api.Instr, 0, 9)})
	if kept := in.Txn(1); kept.Reads != nil || kept.Writes != nil || kept.Code != nil {
		t.Errorf("P2: kept %+v", kept)
	}
}

func TestTransactionsLieByNumber(t *testing.T) {
	var in Intake
	for n := 1; n <= 20; n++ {
		if got := in.Add(api.Txn{Reads: []int{n}}); got != n || in.Txns() != n {
			t.Errorf("P5: number %d of %d, want %d", got, in.Txns(), n)
		}
	}
	for n := 1; n <= 20; n++ {
		if reads := in.Txn(n).Reads; !slices.Equal(reads, []int{n}) {
			t.Errorf("P5: transaction %d reads %v", n, reads)
		}
	}
}

// All ways to close, or not, behind each of 14 transactions: a batch ends there or where it is filled.
func TestBatches(t *testing.T) {
	const txns = 14
	for cuts := range 1 << txns {
		var in Intake
		var ends []int
		size := 0
		for n := 1; n <= txns; n++ {
			in.Add(api.Txn{})
			size++
			cut := cuts>>(n-1)&1 == 1
			if cut {
				in.Close()
			}
			if cut || size == 6 {
				ends, size = append(ends, n), 0
			}
			if in.Batches() != len(ends) || in.Closed() != n-size {
				t.Fatalf("P6: cuts %b: %d batches, %d closed behind %d, want %d, %d", cuts, in.Batches(), in.Closed(), n, len(ends), n-size)
			}
		}
		if !slices.Equal(in.ends, ends) {
			t.Fatalf("P6: cuts %b: batches end at %v, want %v", cuts, in.ends, ends)
		}
	}
}

func TestCloseWithoutTransactions(t *testing.T) {
	var in Intake
	in.Close()
	in.Close()
	if in.Batches() != 0 || in.Txns() != 0 || in.Closed() != 0 {
		t.Errorf("P6: %d batches of %d transactions, %d closed", in.Batches(), in.Txns(), in.Closed())
	}
	if in.Done() != 0 || in.Mark() != 0 {
		t.Errorf("P4: done up to %d, mark %d", in.Done(), in.Mark())
	}
}

// filled has the batches 1 to 2, 3 to 8 and 9 to 9, and 10 in the open one.
func filled() *Intake {
	in := &Intake{}
	for n := 1; n <= 10; n++ {
		in.Add(sample())
		if n == 2 || n == 9 {
			in.Close()
		}
	}
	return in
}

// A batch is whole when its last transaction is within; the open one never is.
func TestWhole(t *testing.T) {
	in := filled()
	for n, want := range [][2]int{{0, 0}, {0, 0}, {1, 2}, {1, 2}, {1, 2}, {1, 2}, {1, 2}, {1, 2}, {2, 8}, {3, 9}, {3, 9}, {3, 9}} {
		if batches, last := in.Whole(n); batches != want[0] || last != want[1] {
			t.Errorf("P4: up to %d: %d batches up to %d, want %v", n, batches, last, want)
		}
	}
}

// In every order of three ends in a row: done goes up to the first that has not ended, the mark up to a batch's end.
func TestDoneAndMark(t *testing.T) {
	marks := []int{0, 0, 2, 2, 2, 2, 2, 2, 8, 9, 9}
	for from := 1; from <= 8; from++ {
		for _, order := range [][]int{{0, 1, 2}, {0, 2, 1}, {1, 0, 2}, {1, 2, 0}, {2, 0, 1}, {2, 1, 0}} {
			in := filled()
			for n := 1; n < from; n++ {
				in.End(n, api.Result{})
			}
			ended := map[int]int{}
			for _, i := range order {
				in.End(from+i, api.Result{})
				ended[from+i] = 1
				done := from - 1
				for ended[done+1] == 1 {
					done++
				}
				if in.Done() != done || in.Mark() != marks[done] {
					t.Errorf("P4: %v from %d: done up to %d, mark %d, want %d, %d", order, from, in.Done(), in.Mark(), done, marks[done])
				}
			}
		}
	}
}

func TestResults(t *testing.T) {
	in := filled()
	in.End(3, api.Result{Out: 7})
	in.End(4, api.Result{Aborted: true, Out: -7})
	in.End(5, api.Result{})
	for n, want := range map[int]api.Result{3: {Out: 7}, 4: {Aborted: true, Out: -7}, 5: {}} {
		if r, ended := in.Result(n); r != want || !ended {
			t.Errorf("P9: result of %d: %+v, %v, want %+v", n, r, ended, want)
		}
	}
	for _, n := range []int{1, 2, 6, 10} {
		if r, ended := in.Result(n); r != (api.Result{}) || ended {
			t.Errorf("P9: result of %d: %+v, %v", n, r, ended)
		}
	}
}

// Nothing but its result is kept of a transaction that has ended.
func TestEndedIsLetGo(t *testing.T) {
	in := filled()
	in.End(3, api.Result{})
	if kept := in.Txn(3); !reflect.DeepEqual(kept, api.Txn{}) {
		t.Errorf("kept %+v", kept)
	}
	if !reflect.DeepEqual(in.Txn(2), sample()) || !reflect.DeepEqual(in.Txn(4), sample()) {
		t.Errorf("others became %+v, %+v", in.Txn(2), in.Txn(4))
	}
}
