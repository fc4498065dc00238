package intake

import (
	"reflect"
	"slices"
	"testing"

	"strata/api"
)

func sample() api.Txn {
	return api.Txn{
		Reads:  []int{3, 4},
		Writes: []int{5},
		Code:   []api.Instr{{Op: api.Load, A: 1, B: 1}, {Op: api.Store, B: 1}},
	}
}

// What is kept of a transaction stays as it came in, whatever happens to the lists that were handed in.
func TestListsAreNotKept(t *testing.T) {
	var in Intake
	given := sample()
	in.Add(given)
	given.Reads[1], given.Writes[0], given.Code[1].B = 9, 9, 9
	in.Add(given)
	if !reflect.DeepEqual(in.txns[0], sample()) {
		t.Errorf("P2: kept %+v, want %+v", in.txns[0], sample())
	}
	if !reflect.DeepEqual(in.txns[1], given) {
		t.Errorf("P5: kept %+v, want %+v", in.txns[1], given)
	}
}

// Of an empty list not even the spare room behind it is kept.
func TestEmptyListsAreNotKept(t *testing.T) {
	var in Intake
	in.Add(api.Txn{Reads: make([]int, 0, 9), Writes: make([]int, 0, 9), Code: make([]api.Instr, 0, 9)})
	if kept := in.txns[0]; kept.Reads != nil || kept.Writes != nil || kept.Code != nil {
		t.Errorf("P2: kept %+v", kept)
	}
}

func TestTransactionsLieByNumber(t *testing.T) {
	var in Intake
	for n := 1; n <= 20; n++ {
		if got := in.Add(api.Txn{Reads: []int{n}}); got != n || in.Txns() != n {
			t.Errorf("P5: number %d of %d, want %d", got, in.Txns(), n)
		}
	}
	for i, txn := range in.txns {
		if !slices.Equal(txn.Reads, []int{i + 1}) {
			t.Errorf("P5: transaction %d reads %v", i+1, txn.Reads)
		}
	}
}

// All ways to close, or not, behind each of 14 transactions: a batch ends there or where it is filled.
func TestBatches(t *testing.T) {
	const txns = 14
	for cuts := range 1 << txns {
		var in Intake
		var ends []int
		size := 0
		for n := 1; n <= txns; n++ {
			in.Add(api.Txn{})
			size++
			cut := cuts>>(n-1)&1 == 1
			if cut {
				in.Close()
			}
			if cut || size == 6 {
				ends, size = append(ends, n), 0
			}
			if in.Batches() != len(ends) {
				t.Fatalf("P6: cuts %b: %d batches behind %d, want %d", cuts, in.Batches(), n, len(ends))
			}
		}
		if !slices.Equal(in.ends, ends) {
			t.Fatalf("P6: cuts %b: batches end at %v, want %v", cuts, in.ends, ends)
		}
	}
}

func TestCloseWithoutTransactions(t *testing.T) {
	var in Intake
	in.Close()
	in.Close()
	if in.Batches() != 0 || in.Txns() != 0 {
		t.Errorf("P6: %d batches of %d transactions", in.Batches(), in.Txns())
	}
}
