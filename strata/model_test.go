package strata_test

import (
	"slices"

	"strata/api"
)

// cell is what a key has.
type cell struct {
	value int
	there bool
}

// done is a transaction, what the serial outcome makes of it, and whether the workers have ended it.
type done struct {
	txn    api.Txn
	path   []api.Instr // the instructions that it does
	result api.Result
	spoken map[int]bool // the keys of which it says what they have
	behind [api.MaxKeys]cell
	ended  bool
	gone   [api.MaxKeys]bool // the keys of which its version was collected
}

// serial does a transaction alone, behind what the keys have.
func serial(txn api.Txn, ahead [api.MaxKeys]cell) done {
	d := done{txn: txn, spoken: map[int]bool{}, behind: ahead}
	var regs [api.Regs]int
	for i := 0; i < len(txn.Code); i++ {
		x := txn.Code[i]
		d.path = append(d.path, x)
		switch x.Op {
		case api.Set:
			regs[x.A] = x.B
		case api.Add:
			regs[x.A] = regs[x.B] + regs[x.C]
		case api.Sub:
			regs[x.A] = regs[x.B] - regs[x.C]
		case api.Mul:
			regs[x.A] = regs[x.B] * regs[x.C]
		case api.Less:
			regs[x.A] = map[bool]int{true: 1}[regs[x.B] < regs[x.C]]
		case api.Load:
			regs[x.A] = ahead[txn.Reads[x.B]].value
		case api.Has:
			regs[x.A] = map[bool]int{true: 1}[ahead[txn.Reads[x.B]].there]
		case api.Store:
			d.behind[txn.Writes[x.A]] = cell{regs[x.B], true}
			d.spoken[txn.Writes[x.A]] = true
		case api.Erase:
			d.behind[txn.Writes[x.A]] = cell{}
			d.spoken[txn.Writes[x.A]] = true
		case api.Skip:
			if regs[x.A] == 0 {
				i += x.B
			}
		case api.Abort:
			d.behind, d.spoken = ahead, nil
			d.result = api.Result{Aborted: true, Out: regs[0]}
			return d
		}
	}
	d.result = api.Result{Out: regs[0]}
	return d
}

// model is a store that knows the serial outcome from the beginning; of the workers it only counts how far they are.
type model struct {
	room  int
	txns  []done // by their numbers; that of 0 is none
	ends  []int  // the last transaction of each closed batch; first a 0
	dealt []int  // of each maker
	took  int
	has   []int // of each doer: its transaction, or 0
	at    []int // of each doer: how many instructions it did
}

func newModel(parts int, doers int, room int) *model {
	return &model{room: room, txns: make([]done, 1), ends: make([]int, 1), dealt: make([]int, parts), has: make([]int, doers), at: make([]int, doers)}
}

func (m *model) last() int { return len(m.txns) - 1 }

func (m *model) closed() int { return m.ends[len(m.ends)-1] }

func (m *model) submit(txn api.Txn) (int, api.Errno) {
	if m.last() == api.MaxTxns {
		return 0, api.ErrMany
	}
	if m.show().Taken+len(txn.Writes) > m.room {
		return 0, api.ErrFull
	}
	m.txns = append(m.txns, serial(txn, m.txns[m.last()].behind))
	if m.last() == m.closed()+api.MaxBatch {
		m.cut()
	}
	return m.last(), api.OK
}

func (m *model) cut() int {
	if m.last() > m.closed() {
		m.ends = append(m.ends, m.last())
	}
	return len(m.ends) - 1
}

func (m *model) show() api.State {
	state := api.State{Txns: m.last(), Batches: len(m.ends) - 1}
	for n, d := range m.txns {
		for _, key := range d.txn.Writes {
			if d.gone[key] {
				continue
			}
			state.Taken++
			if n <= m.dealt[key%len(m.dealt)] {
				state.Live++
			}
		}
	}
	for state.Done < m.last() && m.txns[state.Done+1].ended {
		state.Done++
	}
	for batch, end := range m.ends {
		if end <= slices.Min(m.dealt) {
			state.Ready = batch
		}
		if end <= state.Done {
			state.Mark = end
		}
	}
	return state
}

func (m *model) step(worker int) bool {
	parts, doers := len(m.dealt), len(m.has)
	if worker < 0 || worker > parts+doers {
		return false
	}
	if worker == parts+doers {
		return m.collectorStep() > 0
	}
	if worker < parts {
		if m.dealt[worker] == m.closed() {
			return false
		}
		m.dealt[worker]++
		return true
	}
	return m.doerStep(worker - parts)
}

func (m *model) doerStep(doer int) bool {
	if m.has[doer] == 0 {
		if m.took == m.ends[m.show().Ready] {
			return false
		}
		m.took++
		m.has[doer], m.at[doer] = m.took, 0
	} else {
		if m.waits(doer) {
			return false
		}
		m.at[doer]++
	}
	if d := &m.txns[m.has[doer]]; m.at[doer] == len(d.path) {
		d.ended = true
		m.has[doer] = 0
	}
	return true
}

// waits tells whether the doer's next instruction asks for a key of which a transaction has still to speak.
func (m *model) waits(doer int) bool {
	d := m.txns[m.has[doer]]
	x := d.path[m.at[doer]]
	if x.Op != api.Load && x.Op != api.Has {
		return false
	}
	key := d.txn.Reads[x.B]
	for n := m.has[doer] - 1; n > 0; n-- {
		if w := m.txns[n]; slices.Contains(w.txn.Writes, key) && (!w.ended || w.spoken[key]) {
			return !w.ended
		}
	}
	return false
}

// collectorStep is how many versions went.
func (m *model) collectorStep() int {
	mark := m.show().Mark
	for key := range api.MaxKeys {
		went, kept := 0, false
		for n := mark; n > 0; n-- {
			d := &m.txns[n]
			if d.gone[key] || !slices.Contains(d.txn.Writes, key) {
				continue
			}
			if kept {
				d.gone[key] = true
				went++
			}
			kept = true
		}
		if went > 0 {
			return went
		}
	}
	return 0
}

func (m *model) collect() int {
	went := m.collectorStep()
	if went == 0 {
		return 0
	}
	return went + m.collect()
}

// run ends all that is closed, and frees the doers.
func (m *model) run() {
	m.took = m.closed()
	for part := range m.dealt {
		m.dealt[part] = m.took
	}
	for n := range m.took {
		m.txns[n+1].ended = true
	}
	for doer := range m.has {
		m.has[doer] = 0
	}
}

func (m *model) outcome(n int) (api.Result, api.Errno) {
	if n < 1 || n > m.last() {
		return api.Result{}, api.ErrUnknown
	}
	if !m.txns[n].ended {
		return api.Result{}, api.ErrNotReady
	}
	return m.txns[n].result, api.OK
}

// read is given what show tells now: that takes its time.
func (m *model) read(state api.State, key int, n int) (int, bool, api.Errno) {
	switch {
	case key < 0 || key >= api.MaxKeys:
		return 0, false, api.ErrKey
	case n < 0 || n > state.Txns:
		return 0, false, api.ErrUnknown
	case n > state.Done:
		return 0, false, api.ErrNotReady
	case n < state.Mark:
		return 0, false, api.ErrCollected
	}
	c := m.txns[n].behind[key]
	return c.value, c.there, api.OK
}
