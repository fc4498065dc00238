package strata_test

import (
	"math"
	"math/rand"
	"slices"
	"testing"

	"strata/api"
	"strata/strata"
)

// pair is a store and the model of it, to which the same is done.
type pair struct {
	s            *strata.Strata
	m            *model
	parts, doers int
}

func beginPair(t *testing.T, parts int, doers int, room int) *pair {
	t.Helper()
	return &pair{begin(t, parts, doers, room), newModel(parts, doers, room), parts, doers}
}

// submit spoils the lists behind the call: they are the caller's. Was the transaction taken?
func (p *pair) submit(t *testing.T, txn api.Txn) bool {
	t.Helper()
	given := api.Txn{Reads: slices.Clone(txn.Reads), Writes: slices.Clone(txn.Writes), Code: slices.Clone(txn.Code)}
	n, e := p.m.submit(txn)
	wantSubmit(t, p.s, given, n, e)
	for i := range given.Reads {
		given.Reads[i] = 23
	}
	for i := range given.Writes {
		given.Writes[i] = 23
	}
	for i := range given.Code {
		given.Code[i] = api.Instr{Op: api.Abort}
	}
	return e == api.OK
}

func (p *pair) cut(t *testing.T) {
	t.Helper()
	wantCut(t, p.s, p.m.cut())
}

func (p *pair) step(t *testing.T, worker int) bool {
	t.Helper()
	want := p.m.step(worker)
	wantStep(t, p.s, want, worker)
	return want
}

func (p *pair) run() {
	p.m.run()
	p.s.Run()
}

func (p *pair) collect(t *testing.T) {
	t.Helper()
	wantCollect(t, p.s, p.m.collect())
}

// compare asks all that can be asked.
func (p *pair) compare(t *testing.T) {
	t.Helper()
	state := p.m.show()
	wantShow(t, p.s, state)
	for n := -2; n <= p.m.last()+2; n++ {
		r, e := p.m.outcome(n)
		wantResult(t, p.s, n, r, e)
		for key := -1; key <= api.MaxKeys; key++ {
			value, there, e := p.m.read(state, key, n)
			wantRead(t, p.s, key, n, value, there, e)
		}
	}
}

// drawSet: different keys, few enough to meet those of other transactions often.
func drawSet(r *rand.Rand) []int {
	return r.Perm(7)[:r.Intn(api.MaxSet+1)]
}

// drawTxn: one that Check finds sound.
func drawTxn(r *rand.Rand) api.Txn {
	txn := api.Txn{Reads: drawSet(r), Writes: drawSet(r)}
	if r.Intn(10) == 0 {
		return txn
	}
	for range 1 + r.Intn(12) {
		if x := drawInstr(r, len(txn.Reads), len(txn.Writes)); x.Op != 0 {
			txn.Code = append(txn.Code, x)
		}
	}
	return txn
}

// drawInstr: a sound one, or the zero one where the operation that is drawn has no keys.
func drawInstr(r *rand.Rand, reads int, writes int) api.Instr {
	register := func() int { return r.Intn(api.Regs) }
	numbers := []int{0, 1, -1, 2, 7, math.MaxInt, math.MinInt, r.Intn(100) - 50}
	switch op := []int{1, 1, 2, 3, 4, 5, 6, 6, 6, 7, 7, 8, 8, 8, 9, 10, 10, 11}[r.Intn(18)]; {
	case op == api.Set:
		return api.Instr{Op: op, A: register(), B: numbers[r.Intn(len(numbers))]}
	case op >= api.Add && op <= api.Less:
		return api.Instr{Op: op, A: register(), B: register(), C: register()}
	case (op == api.Load || op == api.Has) && reads > 0:
		return api.Instr{Op: op, A: register(), B: r.Intn(reads)}
	case op == api.Store && writes > 0:
		return api.Instr{Op: op, A: r.Intn(writes), B: register()}
	case op == api.Erase && writes > 0:
		return api.Instr{Op: op, A: r.Intn(writes)}
	case op == api.Skip:
		return api.Instr{Op: op, A: register(), B: 1 + r.Intn(4)}
	case op == api.Abort && r.Intn(3) == 0:
		return api.Instr{Op: op}
	}
	return api.Instr{}
}

// wantBounds: what P13 says of Live, Taken and the room.
func wantBounds(t *testing.T, state api.State, room int) {
	t.Helper()
	if state.Live > state.Taken || state.Taken > room || state.Live < 0 {
		t.Errorf("P13: with room %d: %+v", room, state)
	}
}

// Transactions, cuts, steps of all workers (the collector among them) and, in half of the stores, runs and whole collections, in drawn orders: every answer is the model's.
func TestDrawnOrders(t *testing.T) {
	r := rand.New(rand.NewSource(7))
	for range 200 {
		parts, doers := 1+r.Intn(api.MaxParts), 1+r.Intn(api.MaxDoers)
		room := []int{12, 30, 80, 500}[r.Intn(4)]
		p := beginPair(t, parts, doers, room)
		runs := r.Intn(2) == 0
		for range 600 {
			switch draw := r.Intn(100); {
			case draw < 7:
				p.submit(t, drawTxn(r))
			case draw < 9:
				p.cut(t)
			case draw < 11:
				p.compare(t)
			case draw < 12 && runs:
				p.run()
			case draw < 13 && runs:
				p.collect(t)
			default:
				p.step(t, r.Intn(parts+doers+3)-1)
			}
			wantShow(t, p.s, p.m.show())
			wantBounds(t, p.s.Show(), room)
		}
		p.compare(t)
		if t.Failed() {
			return
		}
	}
}

// inTurns lets the first so many workers make steps, each in its turn, in an order that changes.
func (p *pair) inTurns(t *testing.T, r *rand.Rand, workers int, steps int) {
	t.Helper()
	for range steps {
		moved := false
		for _, worker := range r.Perm(workers) {
			moved = p.step(t, worker) || moved
		}
		if !moved {
			return
		}
	}
}

// As many transactions as there may be, with every number of parts and doers: all of them end within the turns that P13 names.
func TestAllEnd(t *testing.T) {
	r := rand.New(rand.NewSource(8))
	for parts := 1; parts <= api.MaxParts; parts++ {
		for doers := 1; doers <= api.MaxDoers; doers++ {
			p := beginPair(t, parts, doers, 500)
			turns := 0
			for range api.MaxTxns {
				if txn := drawTxn(r); p.submit(t, txn) {
					turns += len(txn.Code) + 2
				}
			}
			p.cut(t)
			p.inTurns(t, r, parts+doers, turns)
			if state := p.s.Show(); state.Done != state.Txns || state.Mark != state.Txns || state.Live != state.Taken {
				t.Errorf("P13: %d parts, %d doers: %+v", parts, doers, state)
			}
			p.compare(t)
		}
	}
}

// The same with the collector among the workers: it keeps nobody from ending, and what is left is of each key at most one version.
func TestAllEndWhileCollecting(t *testing.T) {
	r := rand.New(rand.NewSource(11))
	for parts := 1; parts <= api.MaxParts; parts++ {
		for doers := 1; doers <= api.MaxDoers; doers++ {
			p := beginPair(t, parts, doers, 200)
			for !t.Failed() && p.s.Show().Txns < api.MaxTxns {
				turns := 0
				for range 30 + r.Intn(30) {
					if txn := drawTxn(r); p.submit(t, txn) {
						turns += len(txn.Code) + 2
					}
				}
				p.cut(t)
				p.inTurns(t, r, parts+doers+1, turns)
				p.collect(t)
				state := p.s.Show()
				if state.Done != state.Txns || state.Mark != state.Txns || state.Live != state.Taken || state.Live > 7 { // drawn transactions write 7 keys
					t.Fatalf("P13: %d parts, %d doers: %+v", parts, doers, state)
				}
			}
			p.compare(t)
		}
	}
}
