package deq_test

import (
	"slices"
	"testing"

	"poacher/api"
	"poacher/deq"
)

// holding are filled cells of an injector that has many numbers from place head on: their slots have them, the others are free. Where two places have one slot, the one behind has it.
func holding(c api.Conf, head uint64, many int) api.Mem {
	m := filled(size(c))
	m[headAt], m[tailAt] = head, head+uint64(many)
	for i := range c.I {
		x := head + uint64(i)
		m[seqAt(c, x)] = free(c, x)
		if i < many {
			m[seqAt(c, x)]++
		}
	}
	return m
}

// numbers are those of the slots of so many places from the head on.
func numbers(c api.Conf, m api.Mem, many int) []uint64 {
	var out []uint64
	for i := range many {
		out = append(out, m[valAt(c, m[headAt]+uint64(i))])
	}
	return out
}

// evenly tells whether 2^64 is a multiple of the injector's size: else two places around 2^64 have one slot.
func evenly(c api.Conf) bool { return c.I&(c.I-1) == 0 }

// heads are those of the first rounds, those around 2^32 and 2^63, and those ahead of 2^64 by all of the injector.
func heads(c api.Conf) []uint64 {
	i := uint64(c.I)
	out := []uint64{0, 1, 2, i - 1, i, i + 1, 2*i - 1, 5 * i, 1<<32 - 1, 1 << 62, 1<<63 - 2*i, 1<<63 - i, 1<<63 - 1, 1 << 63, 1<<63 + 1, most - 3*i, most - i, most - i + 1}
	if evenly(c) {
		out = append(out, around(c)...)
	}
	return out
}

// around are the heads from which some places lie ahead of 2^64, and some behind: of an injector of size 1 the last place of all.
func around(c api.Conf) []uint64 {
	out := []uint64{most}
	for i := uint64(1); i+1 < uint64(c.I); i++ {
		out = append(out, most-i)
	}
	return out
}

// lists asks that List answers these.
func lists(t *testing.T, c api.Conf, m api.Mem, want []uint64) {
	t.Helper()
	if got, is := deq.List(c, m); !is || !slices.Equal(got, want) {
		t.Fatalf("List(%+v, %v) = %v, %v, want %v", c, m, got, is, want)
	}
}

// listsNothing asks that there is no list.
func listsNothing(t *testing.T, c api.Conf, m api.Mem) {
	t.Helper()
	if got, is := deq.List(c, m); is || len(got) > 0 {
		t.Fatalf("List(%+v, %v) = %v, %v, want none", c, m, got, is)
	}
}

func TestListByHand(t *testing.T) { // P12.2: written out; of 16 cells, 4 is the head, 5 the tail, 6 to 8 are the sequences, 9 to 11 the values
	c := api.Conf{W: 1, D: 1, I: 3}
	for i, x := range []struct {
		head, tail uint64
		seqs       [3]uint64
		want       []uint64
		is         bool
	}{
		{0, 0, [3]uint64{0, 0, 0}, nil, true},
		{0, 1, [3]uint64{1, 0, 0}, []uint64{70}, true},
		{0, 2, [3]uint64{1, 1, 0}, []uint64{70, 71}, true},
		{0, 3, [3]uint64{1, 1, 1}, []uint64{70, 71, 72}, true},
		{1, 1, [3]uint64{2, 0, 0}, nil, true}, // place 3 is slot 0 in round 1
		{1, 4, [3]uint64{3, 1, 1}, []uint64{71, 72, 70}, true},
		{5, 7, [3]uint64{5, 4, 3}, []uint64{72, 70}, true},
		{5, 6, [3]uint64{4, 4, 3}, []uint64{72}, true},
		{5, 5, [3]uint64{4, 4, 2}, nil, true},
		{most - 2, most - 2, [3]uint64{0xaaaaaaaaaaaaaaaa, 0xaaaaaaaaaaaaaaa8, 0xaaaaaaaaaaaaaaa8}, nil, true}, // the last three places: slots 1, 2 and 0
		{most - 2, 0, [3]uint64{0xaaaaaaaaaaaaaaab, 0xaaaaaaaaaaaaaaa9, 0xaaaaaaaaaaaaaaa9}, []uint64{71, 72, 70}, true},
		{most - 2, most, [3]uint64{0xaaaaaaaaaaaaaaaa, 0xaaaaaaaaaaaaaaa9, 0xaaaaaaaaaaaaaaa9}, []uint64{71, 72}, true},

		{0, 1, [3]uint64{0, 0, 0}, nil, false}, // not there yet
		{0, 0, [3]uint64{1, 0, 0}, nil, false}, // there ahead of the tail
		{1, 1, [3]uint64{1, 0, 0}, nil, false}, // taken, but not free yet
		{1, 1, [3]uint64{0, 0, 0}, nil, false},
		{0, 1, [3]uint64{3, 0, 0}, nil, false}, // there a round later
		{0, 1, [3]uint64{2, 0, 0}, nil, false},
		{3, 4, [3]uint64{1, 2, 2}, nil, false},
		{3, 3, [3]uint64{2, 2, 0}, nil, false},
		{3, 3, [3]uint64{2, 4, 2}, nil, false},
		{0, 2, [3]uint64{1, 0, 1}, nil, false},
		{0, 4, [3]uint64{1, 1, 1}, nil, false}, // one more than there is room for
		{0, 4, [3]uint64{3, 1, 1}, nil, false},
		{1, 0, [3]uint64{0, 0, 0}, nil, false}, // one fewer than none
		{1, 0, [3]uint64{2, 0, 0}, nil, false},
		{0, most, [3]uint64{0, 0, 0}, nil, false},
		{0, 1 << 63, [3]uint64{1, 1, 1}, nil, false},
		{0, 1<<63 - 1, [3]uint64{1, 1, 1}, nil, false},
		{0, 1 << 32, [3]uint64{0, 0, 0}, nil, false},
		{0, 1<<32 + 1, [3]uint64{1, 0, 0}, nil, false},
		{most, most, [3]uint64{0xaaaaaaaaaaaaaaaa, 0, 0}, nil, false}, // the last place of all, and 0 behind it, have slot 0 both
		{most, most, [3]uint64{0, 0, 0}, nil, false},
		{most, 0, [3]uint64{0xaaaaaaaaaaaaaaab, 0, 0}, nil, false},
		{most, 2, [3]uint64{1, 1, 0}, nil, false},
	} {
		m := filled(16)
		m[4], m[5] = x.head, x.tail
		copy(m[6:], x.seqs[:])
		copy(m[9:], []uint64{70, 71, 72})
		if got, is := deq.List(c, m); !slices.Equal(got, x.want) || is != x.is {
			t.Errorf("%d: %v, %v", i, got, is)
		}
	}
}

func TestListAround2To64ByHand(t *testing.T) { // P12.2: written out: 2^64 is 0 again, in round 0
	for i, x := range []struct {
		i          int
		head, tail uint64
		seqs, want []uint64
		is         bool
	}{
		{1, most, most, []uint64{most - 1}, nil, true}, // twice the round goes around: of 2^63 it is 0
		{1, most, 0, []uint64{most}, []uint64{70}, true},
		{1, 0, 0, []uint64{0}, nil, true},
		{1, 1 << 63, 1 << 63, []uint64{0}, nil, true},
		{1, 1 << 63, 1<<63 + 1, []uint64{1}, []uint64{70}, true},
		{1, most, 0, []uint64{most - 1}, nil, false},
		{1, most, most, []uint64{most}, nil, false},
		{1, most, most, []uint64{0}, nil, false},
		{2, most, most, []uint64{0, most - 1}, nil, true},
		{2, most, 0, []uint64{0, most}, []uint64{71}, true},
		{2, most, 1, []uint64{1, most}, []uint64{71, 70}, true},
		{2, most, 1, []uint64{1, 1}, nil, false},
		{2, most, 0, []uint64{most, most}, nil, false},
		{2, most, 2, []uint64{1, 1}, nil, false},
		{2, most, most - 1, []uint64{0, most - 1}, nil, false},
		{4, most - 1, most - 1, []uint64{0, 0, 1<<63 - 2, 1<<63 - 2}, nil, true},
		{4, most - 1, 1, []uint64{1, 0, 1<<63 - 1, 1<<63 - 1}, []uint64{72, 73, 70}, true},
		{4, most - 1, 2, []uint64{1, 1, 1<<63 - 1, 1<<63 - 1}, []uint64{72, 73, 70, 71}, true},
		{4, most - 1, 2, []uint64{1 << 63, 1, 1<<63 - 1, 1<<63 - 1}, nil, false}, // the round behind the last one is round 0
		{4, most - 1, most - 1, []uint64{1 << 63, 1 << 63, 1<<63 - 2, 1<<63 - 2}, nil, false},
		{4, most - 1, most, []uint64{0, 0, 1<<63 - 1, 0}, nil, false},
	} {
		c := api.Conf{W: 1, D: 1, I: x.i}
		m := filled(size(c))
		m[4], m[5] = x.head, x.tail
		copy(m[6:], x.seqs)
		copy(m[6+x.i:], []uint64{70, 71, 72, 73}[:x.i])
		if got, is := deq.List(c, m); !slices.Equal(got, x.want) || is != x.is {
			t.Errorf("%d: %v, %v", i, got, is)
		}
	}
}

func TestListOfANewInjector(t *testing.T) { // P12.2, the chapter's example: nothing, and true; as many cells as it has, one fewer, one more, and none
	for _, c := range layouts() {
		m := make(api.Mem, size(c))
		lists(t, c, m, nil)
		for _, other := range []api.Mem{m[1:], append(slices.Clone(m), 0), slices.Repeat(m, 2), m[:6], {}, nil} {
			listsNothing(t, c, other)
		}
	}
}

func TestListOfEachInjector(t *testing.T) { // P12.2: of each size, with each number of numbers, from heads of all kinds
	for _, c := range rooms() {
		for _, head := range heads(c) {
			for many := range c.I + 1 {
				m := holding(c, head, many)
				lists(t, c, m, numbers(c, m, many))
				for _, other := range []api.Mem{m[1:], append(slices.Clone(m), 0), slices.Repeat(m, 2), m[:6], {}, nil} {
					listsNothing(t, c, other)
				}
			}
		}
	}
}

func TestListOfAnyNumbers(t *testing.T) { // P12.2: the same ones, and the largest; what lies in slots that are free is nobody's
	for _, c := range rooms() {
		for _, val := range vals() {
			for many := range c.I + 1 {
				m := holding(c, 5, many)
				for i := range c.I {
					m[valAt(c, uint64(i))] = val
				}
				lists(t, c, m, slices.Repeat([]uint64{val}, many))
			}
		}
	}
}

func TestListAsksNoOtherCells(t *testing.T) { // P12.2: neither the cells ahead of the head, nor a worker's
	for _, c := range edges() {
		for many := range c.I + 1 {
			m := holding(c, 7, many)
			want := numbers(c, m, many)
			for i := range m {
				if i < headAt || i >= 6+2*c.I {
					for _, n := range vals() {
						m[i] = n
						lists(t, c, m, want)
					}
				}
			}
		}
	}
}

func TestListOfNoLength(t *testing.T) { // P12.2: less than 0, and more than there is room for, whatever the sequences are
	for _, c := range rooms() {
		i := uint64(c.I)
		for _, head := range heads(c) {
			for _, off := range []uint64{i + 1, i + 2, 2 * i, 2*i + 1, 1 << 32, 1<<32 + i, 1<<63 - 1, 1 << 63, 1<<63 + 1, -(i + 1), -i, most - 1, most} {
				if off <= i {
					continue
				}
				for many := range c.I + 1 {
					m := holding(c, head, many)
					m[tailAt] = head + off
					listsNothing(t, c, m)
				}
			}
		}
	}
}

// others are sequences that place x may not have, where it should have this one: around it, of other rounds, and those that differ by a bit.
func others(c api.Conf, x, seq uint64) []uint64 {
	out := []uint64{seq - 3, seq - 2, seq - 1, seq + 1, seq + 2, seq + 3, x, ^seq, -seq - 1}
	for n := range 64 {
		out = append(out, seq^1<<n)
	}
	return slices.DeleteFunc(out, func(n uint64) bool { return n == seq })
}

func TestListWithOneThatIsNotSo(t *testing.T) { // P12.2: each of those that should have a number, and of those that should be free: the first, the middle, the last one
	for _, c := range rooms() {
		for _, head := range heads(c) {
			for _, many := range []int{0, 1, c.I / 2, c.I - 1, c.I} {
				for i := range c.I {
					x := head + uint64(i)
					m := holding(c, head, many)
					had := m[seqAt(c, x)]
					for _, seq := range others(c, x, had) {
						m[seqAt(c, x)] = seq
						listsNothing(t, c, m)
					}
					m[seqAt(c, x)] = had
					lists(t, c, m, numbers(c, m, many))
				}
			}
		}
	}
}

func TestListOfATailThatIsNotSo(t *testing.T) { // P12.2: so many are there, and the tail says one more, or one fewer; or the head does
	for _, c := range rooms() {
		for _, head := range heads(c) {
			for many := range c.I + 1 {
				for _, at := range []int{headAt, tailAt} {
					m := holding(c, head, many)
					m[at]++
					listsNothing(t, c, m)
					m[at] -= 2
					listsNothing(t, c, m)
				}
			}
		}
	}
}

func TestListWhereTwoPlacesHaveOneSlot(t *testing.T) { // P12.2: around 2^64, of sizes that this is no multiple of: whichever of the two the slot is laid for
	for _, c := range rooms() {
		if evenly(c) {
			continue
		}
		for _, head := range around(c) {
			for many := range c.I + 1 {
				m := holding(c, head, many)
				listsNothing(t, c, m)
				for i := c.I - 1; i >= 0; i-- {
					x := head + uint64(i)
					m[seqAt(c, x)] = free(c, x)
					if i < many {
						m[seqAt(c, x)]++
					}
				}
				listsNothing(t, c, m)
			}
		}
	}
}

func TestListOfNoLayout(t *testing.T) { // P12.2: each limit, one past it, and below 1; noughts, and cells of an injector
	for _, c := range wrong() {
		for _, n := range sizes(c) {
			listsNothing(t, c, make(api.Mem, n))
			m := holding(api.Conf{W: 2, D: 4, I: 3}, 0, 1)
			listsNothing(t, c, append(m, make(api.Mem, n)...)[:n])
		}
		listsNothing(t, c, nil)
		listsNothing(t, c, holding(api.Conf{W: 2, D: 4, I: 3}, 0, 1))
	}
}
