// Package strata: a store that keeps versions: see DOC.md.
package strata

import (
	"strata/api"
	"strata/intake"
	"strata/sound"
)

// Strata is a store.
type Strata struct {
	parts, doers int
	room, taken  int // versions: how many there may be, for how many room is taken
	intake       intake.Intake
}

// Check tells the fault of a transaction (P3).
func Check(t api.Txn) api.Errno { return sound.Fault(t) }

// New begins with an empty store: parts, doers, room (P4).
func New(parts int, doers int, room int) (*Strata, api.Errno) {
	if parts < 1 || parts > api.MaxParts || doers < 1 || doers > api.MaxDoers || room < 0 || room > api.MaxRoom {
		return nil, api.ErrSize
	}
	return &Strata{parts: parts, doers: doers, room: room}, api.OK
}

// Submit takes a transaction; its number (P5).
func (s *Strata) Submit(t api.Txn) (int, api.Errno) {
	if e := s.refusal(t); e != api.OK {
		return 0, e
	}
	s.taken += len(t.Writes)
	return s.intake.Add(t), api.OK
}

// refusal is the reason why a transaction may not come in now, or OK.
func (s *Strata) refusal(t api.Txn) api.Errno {
	if e := Check(t); e != api.OK {
		return e
	}
	if s.intake.Txns() >= api.MaxTxns {
		return api.ErrMany
	}
	if s.taken+len(t.Writes) > s.room {
		return api.ErrFull
	}
	return api.OK
}

// Cut closes a batch; how many are closed (P6).
func (s *Strata) Cut() int {
	s.intake.Close()
	return s.intake.Batches()
}

// Step lets a worker make a step; did it do anything (P7, P8, P12)?
func (s *Strata) Step(worker int) bool { return false }

// Result tells what came of a transaction (P9).
func (s *Strata) Result(n int) (api.Result, api.Errno) { return api.Result{}, api.OK }

// Read tells the value of a key behind a transaction, and whether it has one (P10).
func (s *Strata) Read(key int, n int) (int, bool, api.Errno) { return 0, false, api.OK }

// Show tells the numbers (P4). No worker makes steps yet, so those that come of steps are 0.
func (s *Strata) Show() api.State {
	return api.State{Txns: s.intake.Txns(), Batches: s.intake.Batches(), Taken: s.taken}
}

// Run does all that is closed, with all workers at once (P11).
func (s *Strata) Run() {}

// Collect lets all versions go that nobody can read; how many (P12).
func (s *Strata) Collect() int { return 0 }
