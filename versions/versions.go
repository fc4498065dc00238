// Package versions keeps what transactions say of keys.
package versions

// Content is what a key has: a value, or none (the zero Content).
type Content struct {
	Value int
	There bool
}

type state int

const (
	placeholder state = iota
	passedOver
	said
)

type version struct {
	txn     int
	state   state
	content Content
}

// Map has the versions of the keys that are one maker's business: of each key a list, by ascending numbers of transactions.
type Map map[int][]version

// Make adds a placeholder. A key's versions are made in the order of their transactions.
func (m Map) Make(key int, txn int) {
	m[key] = append(m[key], version{txn: txn})
}

// Say makes the version of a transaction that has ended one with this content.
func (m Map) Say(key int, txn int, c Content) {
	m.settle(key, version{txn: txn, state: said, content: c})
}

// PassOver makes the version of a transaction that has ended one that is passed over.
func (m Map) PassOver(key int, txn int) {
	m.settle(key, version{txn: txn, state: passedOver})
}

func (m Map) settle(key int, settled version) {
	list := m[key]
	for i := range list {
		if list[i].txn == settled.txn {
			list[i] = settled
		}
	}
}

// Behind is what the key has behind the transaction n; false, if that hangs on a placeholder.
func (m Map) Behind(key int, n int) (Content, bool) {
	list := m[key]
	for i := len(list) - 1; i >= 0; i-- {
		v := &list[i]
		if v.txn <= n && v.state != passedOver {
			return v.content, v.state == said
		}
	}
	return Content{}, true
}

// Live is how many versions there are.
func (m Map) Live() int {
	n := 0
	for _, list := range m {
		n += len(list)
	}
	return n
}
