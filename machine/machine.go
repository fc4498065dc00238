// Package machine does the code of a transaction, an instruction at a time.
package machine

import (
	"strata/api"
	"strata/versions"
)

// Look tells what a key has ahead of the transaction; false, if that is not known yet.
type Look func(key int) (versions.Content, bool)

// Machine is a transaction under way.
type Machine struct {
	txn     api.Txn
	next    int // the instruction that comes next
	regs    [api.Regs]int
	says    [api.MaxSet]saying // of the keys that are written
	aborted bool
}

type saying struct {
	said    bool
	content versions.Content
}

// New begins with a sound transaction, of which no instruction is done.
func New(t api.Txn) Machine { return Machine{txn: t} }

// Ended tells whether no instruction is left to do.
func (m *Machine) Ended() bool { return m.aborted || m.next >= len(m.txn.Code) }

// Result is what comes of the transaction when it has ended.
func (m *Machine) Result() api.Result {
	return api.Result{Aborted: m.aborted, Out: m.regs[0]}
}

// Said is what the transaction, having ended, says of the i-th key that it writes; false, if it says nothing.
func (m *Machine) Said(i int) (versions.Content, bool) {
	if m.aborted {
		return versions.Content{}, false
	}
	return m.says[i].content, m.says[i].said
}

// Step does the next instruction; false, with nothing done, if it asks for what is not known yet.
func (m *Machine) Step(look Look) bool {
	x := m.txn.Code[m.next]
	switch x.Op {
	case api.Load, api.Has:
		c, known := look(m.txn.Reads[x.B])
		if !known {
			return false
		}
		m.regs[x.A] = seen(x.Op, c)
	default:
		m.do(x)
	}
	m.next++
	return true
}

// seen is what Load or Has makes of what a key has.
func seen(op int, c versions.Content) int {
	if op == api.Load {
		return c.Value
	}
	return oneIf(c.There)
}

// do does an instruction that looks at no key.
func (m *Machine) do(x api.Instr) {
	switch x.Op {
	case api.Set:
		m.regs[x.A] = x.B
	case api.Add:
		m.regs[x.A] = m.regs[x.B] + m.regs[x.C]
	case api.Sub:
		m.regs[x.A] = m.regs[x.B] - m.regs[x.C]
	case api.Mul:
		m.regs[x.A] = m.regs[x.B] * m.regs[x.C]
	case api.Less:
		m.regs[x.A] = oneIf(m.regs[x.B] < m.regs[x.C])
	case api.Store:
		m.says[x.A] = saying{true, versions.Content{Value: m.regs[x.B], There: true}}
	case api.Erase:
		m.says[x.A] = saying{said: true}
	case api.Skip:
		if m.regs[x.A] == 0 {
			m.next += x.B
		}
	case api.Abort:
		m.aborted = true
	}
}

func oneIf(holds bool) int {
	if holds {
		return 1
	}
	return 0
}
