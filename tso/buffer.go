package tso

import "slices"

// store is one that waits.
type store struct {
	addr  int
	value uint32
}

// buffer is a core's stores that wait. It has no end, so that a load must not
// go through all of them: the place of each word's youngest is kept.
type buffer struct {
	waits []store // the eldest first
	gone  int     // how many waited and do no more
	last  []int   // of each word: which of all the core's stores, from 1 on, was the last to it; 0: none
}

func (b *buffer) push(s store) {
	b.waits = append(b.waits, s)
	b.last[s.addr] = b.gone + len(b.waits)
}

func (b *buffer) pop() {
	b.waits = b.waits[1:]
	b.gone++
}

// forward tells the youngest store to addr that waits, if one does.
func (b *buffer) forward(addr int) (uint32, bool) {
	place := b.last[addr] - b.gone
	if place < 1 {
		return 0, false
	}
	return b.waits[place-1].value, true
}

func (b *buffer) twin() buffer {
	return buffer{waits: slices.Clone(b.waits), gone: b.gone, last: slices.Clone(b.last)}
}
