package strata

import "sync"

// endings has for each transaction that a run may meet a channel, which is closed when the transaction has ended.
type endings []chan struct{}

// endings are those up to the transaction last.
func (s *Strata) endings(last int) endings {
	e := make(endings, last)
	for n := 1; n <= last; n++ {
		e[n-1] = make(chan struct{})
		if _, ended := s.intake.Result(n); ended {
			e.tell(n)
		}
	}
	return e
}

// await comes back when a transaction has ended.
func (e endings) await(n int) { <-e[n-1] }

// tell lets those go on that wait for a transaction.
func (e endings) tell(n int) { close(e[n-1]) }

// makeAll lets the makers work at the same time: each alone touches the map of its keys.
func (s *Strata) makeAll() {
	var makers sync.WaitGroup
	for number := range s.makers {
		makers.Go(func() {
			for s.makerStep(number) {
			}
		})
	}
	makers.Wait()
}

// doAll lets the doers work at the same time on what is ready.
func (s *Strata) doAll() {
	_, last := s.ready()
	e := s.endings(last)
	own := s.channels(last)
	var doers sync.WaitGroup
	for i, c := range own {
		doers.Go(func() { s.doOwn(&s.doers[i], c, e) })
	}
	s.handOut(own, last)
	doers.Wait()
}

// channels are the doers' own: over each comes first the transaction that the doer has from steps ahead of the run. They have room for all, so that a doer that waits does not keep the others from getting theirs.
func (s *Strata) channels(last int) []chan int {
	own := make([]chan int, len(s.doers))
	for i, d := range s.doers {
		own[i] = make(chan int, 1+last-s.took)
		if d.txn != 0 {
			own[i] <- d.txn
		}
	}
	return own
}

// handOut sends the transactions that no doer took to the doers, by turns. As each gets its own in their order, the least that has not ended is always under way: nobody waits for ever.
func (s *Strata) handOut(own []chan int, last int) {
	for s.took < last {
		s.took++
		own[s.took%len(own)] <- s.took
	}
	for _, c := range own {
		close(c)
	}
}

// doOwn lets a doer do the transactions that come over its channel.
func (s *Strata) doOwn(d *doer, own <-chan int, e endings) {
	for n := range own {
		if d.txn != n {
			s.begin(d, n)
		}
		s.finish(d, n, e)
	}
}

// finish does what is left of the doer's transaction n.
func (s *Strata) finish(d *doer, n int, e endings) {
	for d.txn == n {
		s.advance(d, e.await)
	}
	e.tell(n)
}
