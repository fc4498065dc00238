// Package intake keeps the transactions that came in: how they lie in batches, and what came of them.
package intake

import "strata/api"

// Intake has transactions by their numbers, from 1 on. Empty, it is ready for use.
type Intake struct {
	records []record
	ends    []int // of each closed batch the number of its last transaction
}

type record struct {
	txn    api.Txn // let go when it has ended: nobody asks for it any more
	ended  bool
	result api.Result
}

// Txns is how many transactions came in.
func (in *Intake) Txns() int { return len(in.records) }

// Batches is how many batches are closed.
func (in *Intake) Batches() int { return len(in.ends) }

// Closed is how many transactions lie in closed batches.
func (in *Intake) Closed() int { return in.lastOf(len(in.ends)) }

// Add takes a copy of a transaction into the open batch, closes the batch if that fills it, and answers the transaction's number.
func (in *Intake) Add(t api.Txn) int {
	in.records = append(in.records, record{txn: copyOf(t)})
	if in.open() == api.MaxBatch {
		in.Close()
	}
	return len(in.records)
}

// Close closes the open batch, if it has a transaction.
func (in *Intake) Close() {
	if in.open() > 0 {
		in.ends = append(in.ends, len(in.records))
	}
}

// open is how many transactions the open batch has.
func (in *Intake) open() int { return len(in.records) - in.Closed() }

// lastOf is the number of the last transaction of so many closed batches; 0, if it is none.
func (in *Intake) lastOf(batches int) int {
	if batches == 0 {
		return 0
	}
	return in.ends[batches-1]
}

// Whole is how many closed batches have no transaction behind n, and the number of their last one; 0 and 0, if there is none.
func (in *Intake) Whole(n int) (batches int, last int) {
	for batches < len(in.ends) && in.ends[batches] <= n {
		batches++
	}
	return batches, in.lastOf(batches)
}

// Txn is a transaction that has not ended. Its lists are for reading alone.
func (in *Intake) Txn(n int) api.Txn { return in.records[n-1].txn }

// End notes what came of a transaction.
func (in *Intake) End(n int, r api.Result) {
	in.records[n-1] = record{ended: true, result: r}
}

// Result is what came of a transaction; false, if it has not ended.
func (in *Intake) Result(n int) (api.Result, bool) {
	r := in.records[n-1]
	return r.result, r.ended
}

// Done is the greatest number up to which all transactions have ended.
func (in *Intake) Done() int {
	done := 0
	for done < len(in.records) && in.records[done].ended {
		done++
	}
	return done
}

// Mark is the number of the last transaction of the last closed batch up to which all have ended.
func (in *Intake) Mark() int {
	_, last := in.Whole(in.Done())
	return last
}

func copyOf(t api.Txn) api.Txn {
	return api.Txn{Reads: copyList(t.Reads), Writes: copyList(t.Writes), Code: copyList(t.Code)}
}

// copyList begins at nil, not with slices.Clone: that one's copy of an empty list would still hold on to the memory behind it.
func copyList[T any](list []T) []T { return append([]T(nil), list...) }
