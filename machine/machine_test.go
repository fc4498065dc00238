package machine

import (
	"math"
	"slices"
	"testing"

	"strata/api"
	"strata/versions"
)

func value(n int) versions.Content { return versions.Content{Value: n, There: true} }

// looking sees key 3 with the value 40, key 4 with 0, and no other key with one.
func looking(key int) (versions.Content, bool) {
	switch key {
	case 3:
		return value(40), true
	case 4:
		return value(0), true
	}
	return versions.Content{}, true
}

func blind(int) (versions.Content, bool) { return versions.Content{}, false }

// finish does all the code, which reads the keys 3, 4, 5 and writes 6, 7; and how many instructions were done.
func finish(t *testing.T, code ...api.Instr) (Machine, int) {
	t.Helper()
	m := New(api.Txn{Reads: []int{3, 4, 5}, Writes: []int{6, 7}, Code: code})
	steps := 0
	for ; !m.Ended(); steps++ {
		if !m.Step(looking) {
			t.Fatalf("P8: %v: no step", code)
		}
	}
	return m, steps
}

func set(register int, n int) api.Instr { return api.Instr{Op: api.Set, A: register, B: n} }

// Each operation, with what stands in all registers behind it.
func TestRegisters(t *testing.T) {
	type regs = [api.Regs]int
	for _, c := range []struct {
		code []api.Instr
		want regs
	}{
		{nil, regs{}},
		{[]api.Instr{set(0, 7), set(5, -7)}, regs{7, 0, 0, 0, 0, -7}},
		{[]api.Instr{set(0, math.MinInt), set(1, math.MaxInt)}, regs{math.MinInt, math.MaxInt}},
		{[]api.Instr{set(1, 9), set(2, 4), {Op: api.Add, A: 3, B: 1, C: 2}}, regs{0, 9, 4, 13}},
		{[]api.Instr{set(1, 9), set(2, 4), {Op: api.Sub, A: 3, B: 1, C: 2}}, regs{0, 9, 4, 5}},
		{[]api.Instr{set(1, 9), set(2, 4), {Op: api.Mul, A: 3, B: 1, C: 2}}, regs{0, 9, 4, 36}},
		{[]api.Instr{set(1, 9), {Op: api.Mul, A: 1, B: 1, C: 1}}, regs{0, 81}},
		{[]api.Instr{set(1, math.MaxInt), set(2, 1), {Op: api.Add, A: 3, B: 1, C: 2}}, regs{0, math.MaxInt, 1, math.MinInt}},
		{[]api.Instr{set(1, math.MinInt), set(2, 1), {Op: api.Sub, A: 3, B: 1, C: 2}}, regs{0, math.MinInt, 1, math.MaxInt}},
		{[]api.Instr{set(1, math.MinInt), set(2, -1), {Op: api.Mul, A: 3, B: 1, C: 2}}, regs{0, math.MinInt, -1, math.MinInt}},
		{[]api.Instr{set(1, 4), set(2, 5), set(3, 9), {Op: api.Less, A: 3, B: 1, C: 2}}, regs{0, 4, 5, 1}},
		{[]api.Instr{set(1, 5), set(2, 4), set(3, 9), {Op: api.Less, A: 3, B: 1, C: 2}}, regs{0, 5, 4, 0}},
		{[]api.Instr{set(1, 5), set(2, 5), set(3, 9), {Op: api.Less, A: 3, B: 1, C: 2}}, regs{0, 5, 5, 0}},
		{[]api.Instr{set(1, math.MinInt), set(2, math.MaxInt), {Op: api.Less, A: 3, B: 1, C: 2}}, regs{0, math.MinInt, math.MaxInt, 1}},
		{[]api.Instr{{Op: api.Load, A: 4, B: 0}}, regs{0, 0, 0, 0, 40}},
		{[]api.Instr{set(4, 8), {Op: api.Load, A: 4, B: 1}}, regs{}},
		{[]api.Instr{set(4, 8), {Op: api.Load, A: 4, B: 2}}, regs{}},
		{[]api.Instr{{Op: api.Has, A: 4, B: 0}}, regs{0, 0, 0, 0, 1}},
		{[]api.Instr{{Op: api.Has, A: 4, B: 1}}, regs{0, 0, 0, 0, 1}},
		{[]api.Instr{set(4, 8), {Op: api.Has, A: 4, B: 2}}, regs{}},
		{[]api.Instr{set(1, 8), {Op: api.Store, A: 0, B: 1}, {Op: api.Erase, A: 1}}, regs{0, 8}},
	} {
		m, steps := finish(t, c.code...)
		if m.regs != c.want || steps != len(c.code) {
			t.Errorf("P8: %v: %v in %d steps, want %v", c.code, m.regs, steps, c.want)
		}
		if r := m.Result(); r != (api.Result{Out: c.want[0]}) {
			t.Errorf("P9: %v: %+v", c.code, r)
		}
	}
}

// A Skip of every length, at the beginning and in the midst of code of every length.
func TestSkip(t *testing.T) {
	for length := 1; length <= 6; length++ {
		for at := range length {
			for _, left := range []int{1, 2, 3, 4, 5, 6, 29, 30} {
				for _, register := range []int{0, 1, -1} {
					wantSkip(t, length, at, left, register)
				}
			}
		}
	}
}

// wantSkip has the instruction i add 1 << i to the result, but for the Skip.
func wantSkip(t *testing.T, length int, at int, left int, register int) {
	t.Helper()
	m := New(api.Txn{})
	m.regs[1] = register
	sum, count := 0, 0
	for i := range length {
		m.txn.Code = append(m.txn.Code, api.Instr{Op: api.Add, A: 0, B: 0, C: 2})
		if i <= at || register != 0 || i > at+left {
			count++
		}
	}
	m.txn.Code[at] = api.Instr{Op: api.Skip, A: 1, B: left}
	steps := 0
	for ; !m.Ended(); steps++ {
		m.regs[2] = 1 << m.next
		if m.next != at {
			sum += 1 << m.next
		}
		if register == 0 && m.next > at && m.next <= at+left {
			t.Errorf("P8: instruction %d is done behind Skip of %d at %d", m.next, left, at)
		}
		m.Step(looking)
	}
	if steps != count || m.Result().Out != sum {
		t.Errorf("P8: Skip of %d at %d of %d with %d: %d steps, %b, want %d, %b", left, at, length, register, steps, m.Result().Out, count, sum)
	}
}

func TestAbort(t *testing.T) {
	m, steps := finish(t, set(0, -1), set(1, 8), api.Instr{Op: api.Store, A: 0, B: 1}, api.Instr{Op: api.Erase, A: 1}, api.Instr{Op: api.Abort}, set(0, 5))
	if steps != 5 || m.Result() != (api.Result{Aborted: true, Out: -1}) {
		t.Errorf("P9: %d steps, %+v", steps, m.Result())
	}
	wantSaid(t, &m, 0, versions.Content{}, false)
	wantSaid(t, &m, 1, versions.Content{}, false)
	m, _ = finish(t, set(0, 3), api.Instr{Op: api.Abort})
	if m.Result() != (api.Result{Aborted: true, Out: 3}) {
		t.Errorf("P9: %+v", m.Result())
	}
}

func wantSaid(t *testing.T, m *Machine, i int, want versions.Content, said bool) {
	t.Helper()
	if c, ok := m.Said(i); c != want || ok != said {
		t.Errorf("P8: of the key %d: %+v, %v, want %+v, %v", i, c, ok, want, said)
	}
}

// What the last Store or Erase of a key said counts; a key without one is not spoken of.
func TestSaid(t *testing.T) {
	store := func(i int, register int) api.Instr { return api.Instr{Op: api.Store, A: i, B: register} }
	erase := func(i int) api.Instr { return api.Instr{Op: api.Erase, A: i} }
	nothing := versions.Content{}
	for _, c := range []struct {
		code          []api.Instr
		first, second versions.Content
		said          [2]bool
	}{
		{nil, nothing, nothing, [2]bool{false, false}},
		{[]api.Instr{store(1, 0)}, nothing, value(0), [2]bool{false, true}},
		{[]api.Instr{set(1, 8), store(0, 1), set(1, 9)}, value(8), nothing, [2]bool{true, false}},
		{[]api.Instr{set(1, 8), store(0, 1), set(1, 9), store(0, 1)}, value(9), nothing, [2]bool{true, false}},
		{[]api.Instr{set(1, 8), store(0, 1), store(1, 1), erase(0)}, nothing, value(8), [2]bool{true, true}},
		{[]api.Instr{set(1, 8), erase(0), store(0, 1), erase(1)}, value(8), nothing, [2]bool{true, true}},
		{[]api.Instr{{Op: api.Skip, A: 0, B: 1}, store(0, 0), erase(1)}, nothing, nothing, [2]bool{false, true}},
	} {
		m, _ := finish(t, c.code...)
		wantSaid(t, &m, 0, c.first, c.said[0])
		wantSaid(t, &m, 1, c.second, c.said[1])
	}
}

// An instruction that has to wait does nothing, and is done when it need not wait any more.
func TestWaiting(t *testing.T) {
	for _, op := range []int{api.Load, api.Has} {
		m := New(api.Txn{Reads: []int{5, 3}, Code: []api.Instr{set(0, 7), {Op: op, A: 0, B: 1}, set(1, 2)}})
		if !m.Step(blind) {
			t.Errorf("P8: Set waits")
		}
		for range 3 {
			if m.Step(blind) || m.next != 1 || m.regs[0] != 7 || m.Ended() {
				t.Errorf("P8: operation %d does not wait: %+v", op, m)
			}
		}
		if !m.Step(looking) || m.next != 2 || m.regs[0] != map[int]int{api.Load: 40, api.Has: 1}[op] {
			t.Errorf("P8: operation %d: %+v", op, m)
		}
		if !m.Step(blind) || !m.Ended() {
			t.Errorf("P8: operation %d: no end: %+v", op, m)
		}
	}
}

// It is the keys that are read that are looked at, by their places, and only when an instruction asks.
func TestLookedAt(t *testing.T) {
	var keys []int
	noting := func(key int) (versions.Content, bool) {
		keys = append(keys, key)
		return value(key), true
	}
	m := New(api.Txn{Reads: []int{9, 2, 7}, Writes: []int{4}, Code: []api.Instr{
		{Op: api.Load, A: 1, B: 2}, {Op: api.Has, A: 0, B: 0}, set(1, 1), {Op: api.Store, A: 0, B: 1}, {Op: api.Erase}, {Op: api.Load, A: 0, B: 1},
	}})
	for !m.Ended() {
		m.Step(noting)
	}
	if !slices.Equal(keys, []int{7, 9, 2}) || m.Result().Out != 2 {
		t.Errorf("P8: looked at %v, %+v", keys, m.Result())
	}
}
