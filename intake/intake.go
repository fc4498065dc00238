// Package intake keeps the transactions that came in, and how they lie in batches.
package intake

import "strata/api"

// Intake has transactions by their numbers, from 1 on. Empty, it is ready for use.
type Intake struct {
	txns []api.Txn
	ends []int // of each closed batch the number of its last transaction
}

// Txns is how many transactions came in.
func (in *Intake) Txns() int { return len(in.txns) }

// Batches is how many batches are closed.
func (in *Intake) Batches() int { return len(in.ends) }

// Add takes a copy of a transaction into the open batch, closes the batch if that fills it, and answers the transaction's number.
func (in *Intake) Add(t api.Txn) int {
	in.txns = append(in.txns, copyOf(t))
	if in.open() == api.MaxBatch {
		in.Close()
	}
	return len(in.txns)
}

// Close closes the open batch, if it has a transaction.
func (in *Intake) Close() {
	if in.open() > 0 {
		in.ends = append(in.ends, len(in.txns))
	}
}

// open is how many transactions the open batch has.
func (in *Intake) open() int {
	if len(in.ends) == 0 {
		return len(in.txns)
	}
	return len(in.txns) - in.ends[len(in.ends)-1]
}

func copyOf(t api.Txn) api.Txn {
	return api.Txn{Reads: copyList(t.Reads), Writes: copyList(t.Writes), Code: copyList(t.Code)}
}

// copyList begins at nil, not with slices.Clone: that one's copy of an empty list would still hold on to the memory behind it.
func copyList[T any](list []T) []T { return append([]T(nil), list...) }
