package strata

import (
	"strata/api"
	"strata/machine"
	"strata/versions"
)

// maker makes the versions of the keys that are its business.
type maker struct {
	dealt    int // with the transactions up to this number it has dealt
	versions versions.Map
}

// doer does transactions, one at a time.
type doer struct {
	txn     int // the number of the one that it has; 0, if it has none
	machine machine.Machine
}

// makerOf is the number of the maker whose business a key is.
func (s *Strata) makerOf(key int) int { return key % len(s.makers) }

// versionsOf is the map in which a key's versions lie.
func (s *Strata) versionsOf(key int) versions.Map { return s.makers[s.makerOf(key)].versions }

// ready is how many batches are ready, and the number of the last transaction in them.
func (s *Strata) ready() (batches int, last int) {
	dealt := s.makers[0].dealt
	for _, m := range s.makers {
		dealt = min(dealt, m.dealt)
	}
	return s.intake.Whole(dealt)
}

// live is how many versions there are in all maps.
func (s *Strata) live() int {
	n := 0
	for _, m := range s.makers {
		n += m.versions.Live()
	}
	return n
}

// makerStep deals with the next transaction in closed batches, if there is one (P7).
func (s *Strata) makerStep(number int) bool {
	m := &s.makers[number]
	if m.dealt == s.intake.Closed() {
		return false
	}
	m.dealt++
	for _, key := range s.intake.Txn(m.dealt).Writes {
		if s.makerOf(key) == number {
			m.versions.Make(key, m.dealt)
		}
	}
	return true
}

// doerStep lets a doer take a transaction or do an instruction of the one that it has (P8).
func (s *Strata) doerStep(d *doer) bool {
	if d.txn == 0 {
		return s.take(d)
	}
	return s.advance(d, versions.AtOnce)
}

// take gives the doer the next transaction in ready batches, if there is one.
func (s *Strata) take(d *doer) bool {
	if _, last := s.ready(); s.took == last {
		return false
	}
	s.took++
	s.begin(d, s.took)
	return true
}

// begin gives a doer that has none the transaction n.
func (s *Strata) begin(d *doer, n int) {
	*d = doer{txn: n, machine: machine.New(s.intake.Txn(n))}
	s.endIfDone(d)
}

// advance does the next instruction of the doer's transaction; false, with nothing done, if that asks for a placeholder.
func (s *Strata) advance(d *doer, await versions.Await) bool {
	look := func(key int) (versions.Content, bool) { return s.versionsOf(key).Behind(key, d.txn-1, await) }
	if !d.machine.Step(look) {
		return false
	}
	s.endIfDone(d)
	return true
}

// endIfDone ends the doer's transaction when no instruction is left: its placeholders go, and the doer is free.
func (s *Strata) endIfDone(d *doer) {
	if !d.machine.Ended() {
		return
	}
	for i, key := range s.intake.Txn(d.txn).Writes {
		if c, said := d.machine.Said(i); said {
			s.versionsOf(key).Say(key, d.txn, c)
		} else {
			s.versionsOf(key).PassOver(key, d.txn)
		}
	}
	s.intake.End(d.txn, d.machine.Result())
	*d = doer{}
}

// collectorStep lets the versions go that nobody can read of the least key that has such (P12), and tells how many went; 0, if no key has any.
func (s *Strata) collectorStep() int {
	mark := s.intake.Mark()
	for key := range api.MaxKeys {
		if went := s.versionsOf(key).Collect(key, mark); went > 0 {
			s.taken -= went
			return went
		}
	}
	return 0
}
