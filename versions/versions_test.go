package versions

import (
	"slices"
	"testing"
)

func wantBehind(t *testing.T, m Map, key int, n int, want Content, known bool) {
	t.Helper()
	if c, ok := m.Behind(key, n, AtOnce); c != want || ok != known {
		t.Errorf("P8, P10: key %d behind %d: %+v, %v, want %+v, %v", key, n, c, ok, want, known)
	}
}

var (
	none  = Content{}
	zero  = Content{Value: 0, There: true}
	seven = Content{Value: 7, There: true}
	nine  = Content{Value: -9, There: true}
)

func TestNoVersions(t *testing.T) {
	m := Map{}
	wantBehind(t, m, 0, 0, none, true)
	wantBehind(t, m, 23, 150, none, true)
	if m.Live() != 0 || len(m) != 0 {
		t.Errorf("P4: %d live in %v", m.Live(), m)
	}
}

// A placeholder hides all behind itself, and nothing ahead of itself.
func TestPlaceholder(t *testing.T) {
	m := Map{}
	m.Make(3, 5)
	wantBehind(t, m, 3, 0, none, true)
	wantBehind(t, m, 3, 4, none, true)
	wantBehind(t, m, 3, 5, none, false)
	wantBehind(t, m, 3, 6, none, false)
	wantBehind(t, m, 4, 6, none, true)
	m.Say(3, 5, seven)
	wantBehind(t, m, 3, 4, none, true)
	wantBehind(t, m, 3, 5, seven, true)
	wantBehind(t, m, 3, 150, seven, true)
}

// A version that is passed over lets through what lies ahead of it: a value, none, or a placeholder.
func TestPassedOver(t *testing.T) {
	m := Map{}
	for _, n := range []int{1, 2, 4, 8} {
		m.Make(3, n)
	}
	m.PassOver(3, 8)
	m.PassOver(3, 2)
	wantBehind(t, m, 3, 9, none, false)
	wantBehind(t, m, 3, 3, none, false)
	wantBehind(t, m, 3, 0, none, true)
	m.PassOver(3, 4)
	m.Say(3, 1, seven)
	for n := 1; n <= 9; n++ {
		wantBehind(t, m, 3, n, seven, true)
	}
	m = Map{}
	m.Make(3, 1)
	m.PassOver(3, 1)
	wantBehind(t, m, 3, 1, none, true)
}

// What is said later counts, a value of 0 and none as much as any; each number sees its own.
func TestSaid(t *testing.T) {
	m := Map{}
	for _, n := range []int{2, 3, 5, 6} {
		m.Make(3, n)
	}
	m.Say(3, 6, nine)
	m.Say(3, 3, none)
	m.Say(3, 5, zero)
	m.Say(3, 2, seven)
	for n, want := range []Content{none, none, seven, none, none, zero, nine, nine} {
		wantBehind(t, m, 3, n, want, true)
	}
}

// To settle a version touches no other: neither of the key nor of the transaction.
func TestSettledAlone(t *testing.T) {
	m := Map{}
	for _, key := range []int{3, 11} {
		m.Make(key, 1)
		m.Make(key, 2)
	}
	m.Say(3, 2, seven)
	wantBehind(t, m, 3, 1, none, false)
	wantBehind(t, m, 11, 1, none, false)
	wantBehind(t, m, 11, 2, none, false)
	m.PassOver(11, 1)
	wantBehind(t, m, 3, 1, none, false)
	wantBehind(t, m, 11, 1, none, true)
	wantBehind(t, m, 11, 2, none, false)
}

// Ahead of a look at what became of a version its transaction is waited for: from the greatest number on, one by one, up to the first that is not passed over.
func TestAwait(t *testing.T) {
	became := map[int]func(Map){
		2: func(m Map) { m.Say(3, 2, nine) },
		4: func(m Map) { m.Say(3, 4, seven) },
		5: func(m Map) { m.PassOver(3, 5) },
		8: func(m Map) { m.PassOver(3, 8) },
		9: func(m Map) { m.Say(3, 9, none) },
	}
	for _, c := range []struct {
		n       int
		want    Content
		awaited []int
	}{
		{1, none, nil},
		{2, nine, []int{2}},
		{4, seven, []int{4}},
		{7, seven, []int{5, 4}},
		{8, seven, []int{8, 5, 4}},
		{9, none, []int{9}},
		{99, none, []int{9}},
	} {
		m := Map{}
		for _, n := range []int{2, 4, 5, 8, 9} {
			m.Make(3, n)
			m.Make(11, n)
		}
		var awaited []int
		got, known := m.Behind(3, c.n, func(txn int) {
			awaited = append(awaited, txn)
			became[txn](m)
		})
		if got != c.want || !known || !slices.Equal(awaited, c.awaited) {
			t.Errorf("P11: behind %d: %+v, %v, having waited for %v, want %+v, %v", c.n, got, known, awaited, c.want, c.awaited)
		}
	}
}

// Every version is live, whatever became of it.
func TestLive(t *testing.T) {
	m := Map{}
	for n := 1; n <= 5; n++ {
		for key := range n {
			m.Make(key, n)
		}
	}
	m.Say(0, 1, seven)
	m.Say(0, 2, none)
	m.PassOver(0, 3)
	if m.Live() != 15 {
		t.Errorf("P4: %d live, want 15", m.Live())
	}
}

func wantCollect(t *testing.T, m Map, key int, mark int, want int) {
	t.Helper()
	live := m.Live()
	if went := m.Collect(key, mark); went != want || m.Live() != live-want {
		t.Errorf("P12: key %d up to %d: %d went, %d of %d stay, want %d to go", key, mark, went, m.Live(), live, want)
	}
}

// Of the versions up to the mark the last one stays.
func TestCollect(t *testing.T) {
	for mark, want := range []int{0, 0, 0, 1, 1, 2, 2, 2, 3, 3} {
		m := Map{}
		for _, n := range []int{2, 3, 5, 8} {
			m.Make(3, n)
			m.Say(3, n, Content{Value: n, There: true})
		}
		wantCollect(t, m, 3, mark, want)
		wantCollect(t, m, 3, mark, 0)
		for n := max(mark, 2); n <= 9; n++ {
			wantBehind(t, m, 3, n, Content{Value: []int{2, 3, 3, 5, 5, 5, 8, 8}[n-2], There: true}, true)
		}
	}
}

// Placeholders behind the mark, and other keys, are left alone; what stays may be settled, and collected, later.
func TestCollectAheadOfPlaceholders(t *testing.T) {
	m := Map{}
	for n := 1; n <= 4; n++ {
		m.Make(3, n)
		m.Make(11, n)
	}
	m.Say(3, 1, seven)
	m.Say(3, 2, nine)
	wantCollect(t, m, 4, 2, 0)
	wantCollect(t, m, 3, 2, 1)
	wantBehind(t, m, 3, 2, nine, true)
	wantBehind(t, m, 3, 3, none, false)
	wantBehind(t, m, 11, 1, none, false)
	if len(m[11]) != 4 {
		t.Errorf("P12: %d versions of the other key", len(m[11]))
	}
	m.Say(3, 4, zero)
	m.PassOver(3, 3)
	wantBehind(t, m, 3, 3, nine, true)
	wantBehind(t, m, 3, 4, zero, true)
	wantCollect(t, m, 3, 3, 1)
	wantBehind(t, m, 3, 3, nine, true)
	m.Make(3, 5)
	wantCollect(t, m, 3, 4, 1)
	wantBehind(t, m, 3, 4, zero, true)
	wantBehind(t, m, 3, 5, none, false)
}

// Where the one that stays is passed over, it has what the key had.
func TestCollectOntoPassedOver(t *testing.T) {
	for _, c := range []Content{none, zero, seven} {
		m := Map{}
		for n := 1; n <= 4; n++ {
			m.Make(3, n)
		}
		m.Say(3, 1, nine)
		m.Say(3, 2, c)
		m.PassOver(3, 3)
		m.PassOver(3, 4)
		wantCollect(t, m, 3, 3, 2)
		wantBehind(t, m, 3, 3, c, true)
		wantBehind(t, m, 3, 4, c, true)
		wantCollect(t, m, 3, 4, 1)
		wantBehind(t, m, 3, 4, c, true)
	}
	m := Map{}
	m.Make(3, 1)
	m.Make(3, 2)
	m.PassOver(3, 1)
	m.PassOver(3, 2)
	wantCollect(t, m, 3, 2, 1)
	wantBehind(t, m, 3, 2, none, true)
}
