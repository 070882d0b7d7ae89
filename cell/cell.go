// Package cell is layer 1: see shared/doc/01-cell.md.
package cell

import "poacher/api"

// Load is a cell's number, Store lays one, Cas lays one in the place of another one, Add adds one.
func Load(m api.Mem, i int) uint64 {
	var has uint64
	at(m, i, func(n *uint64) { has = *n })
	return has
}

func Store(m api.Mem, i int, v uint64) api.Mem {
	own := copied(m)
	at(own, i, func(n *uint64) { *n = v })
	return own
}

func Cas(m api.Mem, i int, old, new uint64) (api.Mem, bool) {
	own, done := copied(m), false
	at(own, i, func(n *uint64) {
		if *n == old {
			*n, done = new, true
		}
	})
	return own, done
}

func Add(m api.Mem, i int, by uint64) (api.Mem, uint64) {
	own := copied(m)
	var had uint64
	at(own, i, func(n *uint64) {
		had = *n
		*n += by
	})
	return own, had
}

// Same tells whether two are the same.
func Same(a, b api.Mem) bool {
	if len(a) != len(b) {
		return false
	}
	same := true
cells:
	for i := range a {
		if a[i] != b[i] {
			same = false
			break cells
		}
	}
	return same
}

// at is the one way to a cell, so that no call has to ask for itself whether there is one.
func at(m api.Mem, i int, do func(n *uint64)) {
	if i >= 0 && i < len(m) {
		do(&m[i])
	}
}

// copied keeps what is answered apart from what was handed in, also where no cell changes.
func copied(m api.Mem) api.Mem {
	own := make(api.Mem, len(m))
	copy(own, m)
	return own
}
