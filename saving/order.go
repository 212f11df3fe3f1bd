package saving

import (
	"slices"
	"strings"

	"heavykeys/api"
	"heavykeys/index"
	"heavykeys/ranks"
)

// order is a bounded number of entries, in the order of their counts. Each has an element of ranks.
type order struct {
	ranks    *ranks.Ranks
	numbers  *index.Map[int] // the element of each key
	elements []element       // that of a number without an entry is the zero value
}

// element is what ranks does not know of an entry. The Own of the entry is its count less its Slack.
type element struct {
	key   string
	slack uint64
}

// empty returns an order without entries, and with room for m of them, at most MaxSlots.
func empty(m int) order {
	// Neither refuses so few, and the words are as many as they must be.
	r, _ := ranks.New(m)
	numbers, _ := index.New[int](m, words(), 0)
	return order{ranks: r, numbers: numbers, elements: make([]element, m)}
}

// words returns the words of a hash function. The table is correct with any words; these keep searches short.
func words() []uint64 {
	const step = 0x9e3779b97f4a7c15 // 2^64 divided by the golden ratio: its multiples are far apart
	table := make([]uint64, api.TableSize)
	for i := range table {
		table[i] = uint64(i+1) * step
	}
	return table
}

// size returns the number of entries.
func (o *order) size() int {
	return o.ranks.Len()
}

// full says whether there is no room for another entry.
func (o *order) full() bool {
	return o.size() == len(o.elements)
}

// find returns the entry of a key, or false if there is none.
func (o *order) find(key string) (api.Entry, bool) {
	n, ok := o.numbers.Get(key)
	if !ok {
		return api.Entry{}, false
	}
	return o.entry(n), true
}

// entry returns the entry of an element.
func (o *order) entry(n int) api.Entry {
	count, _ := o.ranks.Count(n)
	x := o.elements[n]
	return api.Entry{Key: x.key, Own: count - x.slack, Slack: x.slack}
}

// all returns the entries in ascending order of their keys.
func (o *order) all() []api.Entry {
	entries := make([]api.Entry, 0, o.size())
	for _, key := range o.numbers.Keys() {
		e, _ := o.find(key)
		entries = append(entries, e)
	}
	return entries
}

// insert adds an entry. There must be room for it, none with its key, and its count must be valid.
func (o *order) insert(e api.Entry) {
	// No key is empty, so an element that is the zero value has no entry.
	n := slices.Index(o.elements, element{})
	o.numbers.Put(e.Key, n)
	o.ranks.Insert(n, e.Own+e.Slack)
	// The key may be a part of a long text, which the element would keep.
	o.elements[n] = element{key: strings.Clone(e.Key), slack: e.Slack}
}

// raise adds to the Own of a key's entry, or returns false if there is none. The new count must be valid.
func (o *order) raise(key string, w uint64) bool {
	n, ok := o.numbers.Get(key)
	if ok {
		o.ranks.Raise(n, w)
	}
	return ok
}

// remove removes the entry of a key and returns it, or false if there is none.
func (o *order) remove(key string) (api.Entry, bool) {
	n, ok := o.numbers.Delete(key)
	if !ok {
		return api.Entry{}, false
	}
	e := o.entry(n)
	o.ranks.Remove(n)
	o.elements[n] = element{}
	return e, true
}

// removeLeast removes the first entry, and returns its count. There must be one.
func (o *order) removeLeast() uint64 {
	n, count, _ := o.ranks.Least()
	o.remove(o.elements[n].key)
	return count
}
