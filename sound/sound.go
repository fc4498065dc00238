// Package sound tells whether a transaction may come in: its lengths, its keys and its code.
package sound

import (
	"slices"

	"strata/api"
)

// Fault is the first fault that a transaction has, in the order of P3, or OK.
func Fault(t api.Txn) api.Errno {
	switch {
	case isLong(t):
		return api.ErrLong
	case hasNoKey(t.Reads) || hasNoKey(t.Writes):
		return api.ErrKey
	case hasTwice(t.Reads) || hasTwice(t.Writes):
		return api.ErrTwice
	case hasUnsound(t):
		return api.ErrCode
	}
	return api.OK
}

func isLong(t api.Txn) bool {
	return len(t.Code) > api.MaxCode || len(t.Reads) > api.MaxSet || len(t.Writes) > api.MaxSet
}

// hasNoKey tells whether a number in the list is no key.
func hasNoKey(list []int) bool {
	return slices.ContainsFunc(list, func(k int) bool { return !IsKey(k) })
}

// IsKey tells whether a number is a key.
func IsKey(n int) bool { return below(n, api.MaxKeys) }

func hasTwice(list []int) bool {
	for i, k := range list {
		if slices.Contains(list[:i], k) {
			return true
		}
	}
	return false
}

func hasUnsound(t api.Txn) bool {
	return slices.ContainsFunc(t.Code, func(x api.Instr) bool {
		return !isSound(x, len(t.Reads), len(t.Writes))
	})
}

// isSound tells whether an instruction may stand in the code of a transaction with so many keys.
func isSound(x api.Instr, reads int, writes int) bool {
	switch x.Op {
	case api.Set:
		return isRegister(x.A) && x.C == 0
	case api.Add, api.Sub, api.Mul, api.Less:
		return isRegister(x.A) && isRegister(x.B) && isRegister(x.C)
	case api.Load, api.Has:
		return isRegister(x.A) && below(x.B, reads) && x.C == 0
	case api.Store:
		return below(x.A, writes) && isRegister(x.B) && x.C == 0
	case api.Erase:
		return below(x.A, writes) && x.B == 0 && x.C == 0
	case api.Skip:
		return isRegister(x.A) && x.B >= 1 && x.B <= api.MaxCode && x.C == 0
	case api.Abort:
		return x.A == 0 && x.B == 0 && x.C == 0
	}
	return false
}

func isRegister(n int) bool { return below(n, api.Regs) }

// below tells whether n is one of the numbers 0 to end - 1.
func below(n int, end int) bool { return n >= 0 && n < end }
