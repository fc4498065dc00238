// Package versions keeps what transactions say of keys.
package versions

import "slices"

// Content is what a key has: a value, or none (the zero Content).
type Content struct {
	Value int
	There bool
}

type state int

const (
	placeholder state = iota
	passedOver
	said
)

type version struct {
	txn     int
	state   state
	content Content
}

// Map has the versions of the keys that are one maker's business: of each key a list, by ascending numbers of transactions.
type Map map[int][]version

// Make adds a placeholder. A key's versions are made in the order of their transactions.
func (m Map) Make(key int, txn int) {
	m[key] = append(m[key], version{txn: txn})
}

// Say makes the version of a transaction that has ended one with this content.
func (m Map) Say(key int, txn int, c Content) { m.settle(key, txn, said, c) }

// PassOver makes the version of a transaction that has ended one that is passed over.
func (m Map) PassOver(key int, txn int) { m.settle(key, txn, passedOver, Content{}) }

// settle leaves the numbers alone: others may be looking for theirs at the same time.
func (m Map) settle(key int, txn int, became state, c Content) {
	list := m[key]
	for i := range list {
		if v := &list[i]; v.txn == txn {
			v.state, v.content = became, c
		}
	}
}

// Await is called with the number of a version's transaction ahead of the look at what became of the version. Where transactions end at the same time, it comes back when that one has ended.
type Await func(txn int)

// AtOnce waits for nobody: versions are seen as they stand.
func AtOnce(int) {}

// Behind is what the key has behind the transaction n; false, if that hangs on a placeholder.
func (m Map) Behind(key int, n int, await Await) (Content, bool) {
	list := m[key]
	for i := upTo(list, n) - 1; i >= 0; i-- {
		v := &list[i]
		await(v.txn)
		if v.state != passedOver {
			return v.content, v.state == said
		}
	}
	return Content{}, true
}

// upTo is how many versions of a list are of transactions up to n.
func upTo(list []version, n int) int {
	count := 0
	for count < len(list) && list[count].txn <= n {
		count++
	}
	return count
}

// Collect lets the key's versions up to the transaction mark go, all but the last one, and tells how many went. All transactions up to the mark have ended.
func (m Map) Collect(key int, mark int) int {
	list := m[key]
	went := upTo(list, mark) - 1
	if went < 1 {
		return 0
	}
	// The last one may be passed over: as nothing stays ahead of it, it has to say itself what the key has.
	c, _ := m.Behind(key, mark, AtOnce)
	m.Say(key, list[went].txn, c)
	m[key] = slices.Delete(list, 0, went)
	return went
}

// Live is how many versions there are.
func (m Map) Live() int {
	n := 0
	for _, list := range m {
		n += len(list)
	}
	return n
}
