package sound

import (
	"math"
	"slices"
	"testing"

	"strata/api"
)

// span is the least and the greatest number that an operand may be.
type span struct{ low, high int }

var (
	none     = span{0, 0}
	register = span{0, 5}
	anyInt   = span{math.MinInt, math.MaxInt}
)

// spans tells, beside the program and in the document's numbers, what the operands of an operation may be.
func spans(op int, reads int, writes int) (a, b, c span) {
	read, written := span{0, reads - 1}, span{0, writes - 1}
	switch op {
	case 1:
		return register, anyInt, none
	case 2, 3, 4, 5:
		return register, register, register
	case 6, 7:
		return register, read, none
	case 8:
		return written, register, none
	case 9:
		return written, none, none
	case 10:
		return register, span{1, 30}, none
	case 11:
		return none, none, none
	}
	nothing := span{1, 0}
	return nothing, nothing, nothing
}

func (s span) has(n int) bool { return s.low <= n && n <= s.high }

// keys lists n keys.
func keys(n int) []int {
	list := make([]int, n)
	for i := range list {
		list[i] = 3*i + 1
	}
	return list
}

// The edges of every operand, in all mixtures, of every operation and some numbers beside them.
func TestInstructions(t *testing.T) {
	operands := []int{math.MinInt, -1, 0, 1, 2, 5, 6, 7, 29, 30, 31, math.MaxInt}
	operations := []int{math.MinInt, -1, 0, 1, 2, 3, 4, 5, 6, 7, 8, 9, 10, 11, 12, math.MaxInt}
	for _, reads := range []int{0, 1, 2, 6} {
		for _, writes := range []int{0, 1, 2, 6} {
			for _, op := range operations {
				checkOperation(t, op, reads, writes, operands)
			}
		}
	}
}

func checkOperation(t *testing.T, op int, reads int, writes int, operands []int) {
	t.Helper()
	inA, inB, inC := spans(op, reads, writes)
	for _, a := range operands {
		for _, b := range operands {
			for _, c := range operands {
				want := api.ErrCode
				if inA.has(a) && inB.has(b) && inC.has(c) {
					want = api.OK
				}
				x := api.Instr{Op: op, A: a, B: b, C: c}
				txn := api.Txn{Reads: keys(reads), Writes: keys(writes), Code: []api.Instr{x}}
				if e := Fault(txn); e != want {
					t.Errorf("P3: %+v with %d keys read, %d written: %d, want %d", x, reads, writes, e, want)
				}
			}
		}
	}
}

// One unsound instruction is found wherever it stands: also where it would never be done.
func TestEveryInstructionCounts(t *testing.T) {
	for bad := range api.MaxCode {
		code := slices.Repeat([]api.Instr{{Op: api.Abort}}, api.MaxCode)
		if e := Fault(api.Txn{Code: code}); e != api.OK {
			t.Fatalf("P3: sound code: %d", e)
		}
		code[bad] = api.Instr{Op: api.Set, A: api.Regs}
		if e := Fault(api.Txn{Code: code}); e != api.ErrCode {
			t.Errorf("P3: unsound at %d: %d", bad, e)
		}
	}
}

func TestLengths(t *testing.T) {
	code := slices.Repeat([]api.Instr{{Op: api.Abort}}, 31)
	for _, c := range []struct {
		name string
		txn  api.Txn
		want api.Errno
	}{
		{"nothing at all", api.Txn{}, api.OK},
		{"empty lists", api.Txn{Reads: []int{}, Writes: []int{}, Code: []api.Instr{}}, api.OK},
		{"30 instructions", api.Txn{Code: code[:30]}, api.OK},
		{"31 instructions", api.Txn{Code: code}, api.ErrLong},
		{"6 keys read", api.Txn{Reads: keys(6)}, api.OK},
		{"7 keys read", api.Txn{Reads: keys(7)}, api.ErrLong},
		{"6 keys written", api.Txn{Writes: keys(6)}, api.OK},
		{"7 keys written", api.Txn{Writes: keys(7)}, api.ErrLong},
		{"all as long as may be", api.Txn{Reads: keys(6), Writes: keys(6), Code: code[:30]}, api.OK},
		{"very long", api.Txn{Reads: make([]int, 1<<20), Writes: make([]int, 1<<20), Code: make([]api.Instr, 1<<20)}, api.ErrLong},
	} {
		if e := Fault(c.txn); e != c.want {
			t.Errorf("P3: %s: %d, want %d", c.name, e, c.want)
		}
	}
}

func TestKeys(t *testing.T) {
	for _, key := range []int{math.MinInt, -24, -1, 0, 1, 22, 23, 24, 25, 48, math.MaxInt} {
		want := api.ErrKey
		if 0 <= key && key <= 23 {
			want = api.OK
		}
		for at := range api.MaxSet {
			list := []int{4, 5, 6, 7, 8, 9}
			list[at] = key
			if e := Fault(api.Txn{Reads: list}); e != want {
				t.Errorf("P3: read %v: %d, want %d", list, e, want)
			}
			if e := Fault(api.Txn{Writes: list}); e != want {
				t.Errorf("P3: written %v: %d, want %d", list, e, want)
			}
		}
	}
}

func TestTwice(t *testing.T) {
	for i := range api.MaxSet {
		for j := range i {
			list := []int{0, 23, 2, 3, 4, 5}
			list[i] = list[j]
			if e := Fault(api.Txn{Reads: list}); e != api.ErrTwice {
				t.Errorf("P3: read %v: %d", list, e)
			}
			if e := Fault(api.Txn{Writes: list}); e != api.ErrTwice {
				t.Errorf("P3: written %v: %d", list, e)
			}
		}
	}
	if e := Fault(api.Txn{Reads: keys(6), Writes: keys(6)}); e != api.OK {
		t.Errorf("P3: the same keys read and written: %d", e)
	}
}

// Of all faults that a transaction has, in either of its lists, the one named first is told.
func TestFirstFault(t *testing.T) {
	noKey, twice, code := []int{24}, []int{7, 7}, []api.Instr{{Op: 12}}
	long := []int{24, 24, 1, 2, 3, 4, 5}
	for _, c := range []struct {
		txn  api.Txn
		want api.Errno
	}{
		{api.Txn{Reads: long, Writes: noKey, Code: code}, api.ErrLong},
		{api.Txn{Reads: noKey, Writes: long, Code: code}, api.ErrLong},
		{api.Txn{Reads: noKey, Writes: twice, Code: make([]api.Instr, 31)}, api.ErrLong},
		{api.Txn{Reads: noKey, Writes: twice, Code: code}, api.ErrKey},
		{api.Txn{Reads: twice, Writes: noKey, Code: code}, api.ErrKey},
		{api.Txn{Reads: []int{24, 24}, Code: code}, api.ErrKey},
		{api.Txn{Reads: twice, Code: code}, api.ErrTwice},
		{api.Txn{Writes: twice, Code: code}, api.ErrTwice},
		{api.Txn{Code: code}, api.ErrCode},
	} {
		if e := Fault(c.txn); e != c.want {
			t.Errorf("P1, P3: %+v: %d, want %d", c.txn, e, c.want)
		}
	}
}
