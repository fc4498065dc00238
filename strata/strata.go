// Package strata: a store that keeps versions: see DOC.md.
package strata

import (
	"strata/api"
	"strata/intake"
	"strata/sound"
	"strata/versions"
)

// Strata is a store.
type Strata struct {
	room, taken int // versions: how many there may be, for how many room is taken
	intake      intake.Intake
	makers      []maker
	doers       []doer
	took        int // up to this number the doers took the transactions
}

// Check tells the fault of a transaction (P3).
func Check(t api.Txn) api.Errno { return sound.Fault(t) }

// New begins with an empty store: parts, doers, room (P4).
func New(parts int, doers int, room int) (*Strata, api.Errno) {
	if parts < 1 || parts > api.MaxParts || doers < 1 || doers > api.MaxDoers || room < 0 || room > api.MaxRoom {
		return nil, api.ErrSize
	}
	s := &Strata{room: room, makers: make([]maker, parts), doers: make([]doer, doers)}
	for i := range s.makers {
		s.makers[i].versions = versions.Map{}
	}
	return s, api.OK
}

// Submit takes a transaction; its number (P5).
func (s *Strata) Submit(t api.Txn) (int, api.Errno) {
	if e := s.refusal(t); e != api.OK {
		return 0, e
	}
	s.taken += len(t.Writes)
	return s.intake.Add(t), api.OK
}

// refusal is the reason why a transaction may not come in now, or OK.
func (s *Strata) refusal(t api.Txn) api.Errno {
	if e := Check(t); e != api.OK {
		return e
	}
	if s.intake.Txns() >= api.MaxTxns {
		return api.ErrMany
	}
	if s.taken+len(t.Writes) > s.room {
		return api.ErrFull
	}
	return api.OK
}

// Cut closes a batch; how many are closed (P6).
func (s *Strata) Cut() int {
	s.intake.Close()
	return s.intake.Batches()
}

// Step lets a worker make a step; did it do anything (P7, P8, P12)?
func (s *Strata) Step(worker int) bool {
	firstDoer := len(s.makers)
	collector := firstDoer + len(s.doers)
	switch {
	case worker < 0:
		return false
	case worker < firstDoer:
		return s.makerStep(worker)
	case worker < collector:
		return s.doerStep(&s.doers[worker-firstDoer])
	case worker == collector:
		return s.collectorStep() > 0
	}
	return false
}

// Result tells what came of a transaction (P9).
func (s *Strata) Result(n int) (api.Result, api.Errno) {
	if n < 1 || n > s.intake.Txns() {
		return api.Result{}, api.ErrUnknown
	}
	r, ended := s.intake.Result(n)
	if !ended {
		return api.Result{}, api.ErrNotReady
	}
	return r, api.OK
}

// Read tells the value of a key behind a transaction, and whether it has one (P10).
func (s *Strata) Read(key int, n int) (int, bool, api.Errno) {
	if e := s.unreadable(key, n); e != api.OK {
		return 0, false, e
	}
	c, _ := s.versionsOf(key).Behind(key, n, versions.AtOnce)
	return c.Value, c.There, api.OK
}

// unreadable is the reason why a key's value behind a transaction can't be told, or OK.
func (s *Strata) unreadable(key int, n int) api.Errno {
	switch {
	case !sound.IsKey(key):
		return api.ErrKey
	case n < 0 || n > s.intake.Txns():
		return api.ErrUnknown
	case n > s.intake.Done():
		return api.ErrNotReady
	case n < s.intake.Mark():
		return api.ErrCollected
	}
	return api.OK
}

// Show tells the numbers (P4).
func (s *Strata) Show() api.State {
	ready, _ := s.ready()
	return api.State{
		Txns:    s.intake.Txns(),
		Batches: s.intake.Batches(),
		Ready:   ready,
		Done:    s.intake.Done(),
		Mark:    s.intake.Mark(),
		Taken:   s.taken,
		Live:    s.live(),
	}
}

// Run does all that is closed, with all workers at once (P11).
func (s *Strata) Run() {
	s.makeAll()
	s.doAll()
}

// Collect lets all versions go that nobody can read; how many (P12).
func (s *Strata) Collect() int {
	all := 0
	for went := s.collectorStep(); went > 0; went = s.collectorStep() {
		all += went
	}
	return all
}
