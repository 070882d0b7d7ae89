package inject_test

import (
	"math"
	"slices"
	"testing"

	"poacher/api"
	"poacher/deq"
	"poacher/enq"
	"poacher/inject"
)

const most = math.MaxUint64

// Head and tail are told anew, as all cells are.
const headAt, tailAt = 4, 5

// in and out are calls that put in, and take out.
const in, out = api.OpEnq, api.OpDeq

// far are numbers that name nothing; narrower kinds would take some of them for small ones.
func far() []int {
	return []int{
		math.MinInt, math.MinInt + 1, math.MinInt + 3, math.MinInt + 4, -1 << 62, math.MinInt32, -1 << 32, -1<<32 + 3, -1<<32 + 4, -256, -253, -252, -16, -8, -4, -3, -2, -1,
		256, 257, 259, 260, 1 << 16, math.MaxInt32, 1 << 32, 1<<32 + 1, 1<<32 + 3, 1<<32 + 4, 1 << 62, math.MaxInt - 1, math.MaxInt,
	}
}

// otherOps are Ops of calls that are not at the injector, and Ops that there are none of.
func otherOps() []int { return append(far(), 0, 1, 2, 5, 6, 7, 8, 9, 11, 12, 16) }

// noPcs are none of a call's, however it goes on.
func noPcs() []int { return append(far(), 5, 6, 7, 8, 9, 16) }

// noRooms are what an injector may not have room for.
func noRooms() []int { return append(far(), 0, 17, 18, 24, 31, 32, 33, 64) }

// Cells are told anew, without package lay: of any layout, and of an injector alone.
func seqAt(c api.Conf, x uint64) int { return 6 + int(x%uint64(c.I)) }

func valAt(c api.Conf, x uint64) int { return 6 + c.I + int(x%uint64(c.I)) }

func size(c api.Conf) int { return 6 + 2*c.I + c.W*(3+c.D) }

func sizeOf(room int) int { return 10 + 2*room }

func alone(room int) api.Conf { return api.Conf{W: 1, D: 1, I: room} }

// free is the sequence of a slot that is free for place x; 1 more, if it has that number.
func free(c api.Conf, x uint64) uint64 { return x / uint64(c.I) * 2 }

// edges are layouts at the limits, and some between.
func edges() []api.Conf {
	all := []api.Conf{{W: 2, D: 2, I: 2}, {W: 3, D: 4, I: 5, Spin: 1}, {W: 5, D: 8, I: 7, Spin: 2}}
	for _, w := range []int{1, 8} {
		for _, d := range []int{1, 16} {
			all = append(all, api.Conf{W: w, D: d, I: 1}, api.Conf{W: w, D: d, I: 3}, api.Conf{W: w, D: d, I: 16, Spin: 4})
		}
	}
	return all
}

// wrong are layouts that may not be: one part of each is wrong, or all.
func wrong() []api.Conf {
	all := []api.Conf{{}, {W: -1, D: -1, I: -1, Spin: -1}, {W: 9, D: 32, I: 17, Spin: 5}}
	part := func(set func(c *api.Conf, n int), beyond ...int) {
		for _, n := range append(beyond, math.MinInt, -2, -1, 256, 1<<32, 1<<32+2, math.MaxInt) {
			c := api.Conf{W: 2, D: 4, I: 3, Spin: 1}
			set(&c, n)
			all = append(all, c)
		}
	}
	part(func(c *api.Conf, n int) { c.W = n }, 0, 9, 16)
	part(func(c *api.Conf, n int) { c.D = n }, 0, 3, 5, 17, 32)
	part(func(c *api.Conf, n int) { c.I = n }, 0, 17, 32)
	part(func(c *api.Conf, n int) { c.Spin = n }, 5, 6, 8)
	return all
}

// filled are cells of which no two are the same, and none is 0.
func filled(n int) api.Mem {
	m := make(api.Mem, n)
	for i := range m {
		m[i] = uint64(i+1) * 0x9e3779b97f4a7c15
	}
	return m
}

// holding are cells of an injector that has these numbers from place head on; its other slots are free for the places behind them.
func holding(c api.Conf, head uint64, has ...uint64) api.Mem {
	m := filled(size(c))
	m[headAt], m[tailAt] = head, head+uint64(len(has))
	for i := range c.I {
		x := head + uint64(i)
		m[seqAt(c, x)] = free(c, x)
		if i < len(has) {
			m[seqAt(c, x)]++
			m[valAt(c, x)] = has[i]
		}
	}
	return m
}

// counted are so many numbers from one on.
func counted(from uint64, many int) []uint64 {
	var all []uint64
	for i := range many {
		all = append(all, from+uint64(i))
	}
	return all
}

// heads are places at which an injector may stand: of other sizes than powers of 2 it has no list around 2^64.
func heads(c api.Conf) []uint64 {
	i := uint64(c.I)
	all := []uint64{0, 1, i - 1, i, 5*i + 2, 1<<32 - 1, 1<<63 - 1, 1 << 63}
	if i&(i-1) == 0 {
		all = append(all, most-1, most)
	}
	return all
}

// fills are how many numbers an injector has that is empty, has one, more, and is full.
func fills(c api.Conf) []int {
	all := []int{0, 1, c.I / 2, c.I - 1, c.I}
	slices.Sort(all)
	return slices.Compact(all)
}

// ownStep is what a call's own package answers.
func ownStep(c api.Conf, m api.Mem, f api.Frame) (api.Mem, api.Frame) {
	if f.Op == in {
		return enq.Step(c, m, f)
	}
	return deq.Step(c, m, f)
}

// asks asks that Step answers these.
func asks(t *testing.T, c api.Conf, m api.Mem, f api.Frame, want api.Mem, call api.Frame) {
	t.Helper()
	got, g := inject.Step(c, m, f)
	if !slices.Equal(got, want) || g != call {
		t.Fatalf("Step(%+v, %v, %+v) = %v, %+v, want %v, %+v", c, m, f, got, g, want, call)
	}
}

// still asks that a step leaves all as it was.
func still(t *testing.T, c api.Conf, m api.Mem, f api.Frame) {
	t.Helper()
	asks(t, c, m, f, m, f)
}

func TestStepByHand(t *testing.T) { // P13.1: written out, with room for 3; 4 is the head, 5 the tail, 6 to 8 are the sequences, 9 to 11 the values
	c := api.Conf{W: 1, D: 1, I: 3}
	m := filled(16)
	m[4], m[5], m[6], m[7], m[8] = 4, 6, 4, 3, 3 // place 6 is free; places 4 and 5 have 70 and 71
	m[10], m[11] = 70, 71
	for i, x := range []struct {
		f    api.Frame
		at   int
		has  uint64
		want api.Frame
	}{
		{api.Frame{Op: 3, Val: 7, X: 1, Y: 2}, 0, m[0], api.Frame{Op: 3, Pc: 1, Val: 7, X: 6, Y: 2}},
		{api.Frame{Op: 3, Pc: 1, Val: 7, X: 6}, 0, m[0], api.Frame{Op: 3, Pc: 2, Val: 7, X: 6, Y: 4}},
		{api.Frame{Op: 3, Pc: 1, Val: 7, X: 7}, 0, m[0], api.Frame{Op: 3, Val: 7, Res: api.ResFull}},
		{api.Frame{Op: 3, Pc: 1, Val: 7, X: 4}, 0, m[0], api.Frame{Op: 3, Pc: 0, Val: 7, X: 4, Y: 3}},
		{api.Frame{Op: 3, Pc: 2, Val: 7, X: 6, Y: 4}, 5, 7, api.Frame{Op: 3, Pc: 3, Val: 7, X: 6, Y: 4}},
		{api.Frame{Op: 3, Pc: 2, Val: 7, X: 5, Y: 4}, 0, m[0], api.Frame{Op: 3, Pc: 0, Val: 7, X: 5, Y: 4}},
		{api.Frame{Op: 3, Pc: 3, Val: 7, X: 6, Y: 4}, 9, 7, api.Frame{Op: 3, Pc: 4, Val: 7, X: 6, Y: 4}},
		{api.Frame{Op: 3, Pc: 4, Val: 7, X: 6, Y: 4}, 6, 5, api.Frame{Op: 3, Val: 7, Res: api.ResOk}},
		{api.Frame{Op: 4, Val: 7, X: 1, Y: 2}, 0, m[0], api.Frame{Op: 4, Pc: 1, Val: 7, X: 4, Y: 2}},
		{api.Frame{Op: 4, Pc: 1, Val: 7, X: 4}, 0, m[0], api.Frame{Op: 4, Pc: 2, Val: 7, X: 4, Y: 3}},
		{api.Frame{Op: 4, Pc: 1, Val: 7, X: 6}, 0, m[0], api.Frame{Op: 4, Res: api.ResEmpty}},
		{api.Frame{Op: 4, Pc: 1, Val: 7, X: 3}, 0, m[0], api.Frame{Op: 4, Pc: 0, Val: 7, X: 3, Y: 4}},
		{api.Frame{Op: 4, Pc: 2, Val: 7, X: 4, Y: 3}, 4, 5, api.Frame{Op: 4, Pc: 3, Val: 7, X: 4, Y: 3}},
		{api.Frame{Op: 4, Pc: 2, Val: 7, X: 6, Y: 3}, 0, m[0], api.Frame{Op: 4, Pc: 0, Val: 7, X: 6, Y: 3}},
		{api.Frame{Op: 4, Pc: 3, Val: 7, X: 4, Y: 3}, 0, m[0], api.Frame{Op: 4, Pc: 4, Val: 70, X: 4, Y: 3}},
		{api.Frame{Op: 4, Pc: 4, Val: 70, X: 4, Y: 3}, 7, 4, api.Frame{Op: 4, Val: 70, Res: api.ResOk}},
		{api.Frame{Op: 2, Val: 7}, 0, m[0], api.Frame{Op: 2, Val: 7}},
		{api.Frame{Op: 5, Val: 7}, 0, m[0], api.Frame{Op: 5, Val: 7}},
		{api.Frame{Op: -1, Val: 7}, 0, m[0], api.Frame{Op: -1, Val: 7}},
	} {
		want := slices.Clone(m)
		want[x.at] = x.has
		x.f.Who, x.want.Who = 9, 9
		if got, g := inject.Step(c, m, x.f); !slices.Equal(got, want) || g != x.want {
			t.Errorf("%d: %v, %+v", i, got, g)
		}
	}
}

func TestStepOfEnqAndDeq(t *testing.T) { // P13.1: each Pc, at injectors that are empty, have one, more, and are full, and at any cells
	for _, c := range edges() {
		for _, head := range heads(c) {
			for _, many := range fills(c) {
				tail := head + uint64(many)
				for _, m := range []api.Mem{holding(c, head, counted(50, many)...), filled(size(c))} {
					for _, op := range []int{in, out} {
						for pc := range 5 {
							for _, x := range []uint64{head, tail, head - 1, tail + 1} {
								f := api.Frame{Op: op, Pc: pc, Who: 2, Val: 77, X: x, Y: x + 9}
								want, call := ownStep(c, m, f)
								if call == f {
									t.Fatalf("%+v would be handed back, also if it went on", f)
								}
								asks(t, c, m, f, want, call)
							}
						}
					}
				}
			}
		}
	}
}

func TestStepOfAnotherOp(t *testing.T) { // P13.1: handed back, whatever else it has
	for _, c := range append(edges(), wrong()...) {
		cells := []api.Mem{filled(30), filled(1), {}, nil}
		if n := size(c); 0 < n && n <= api.MaxMem {
			cells = append(cells, filled(n))
		}
		for _, m := range cells {
			for _, op := range otherOps() {
				for pc := range 6 {
					still(t, c, m, api.Frame{Op: op, Pc: pc, Who: 2, Val: 4, X: 5, Y: 6})
				}
				still(t, c, m, api.Frame{Op: op})
				still(t, c, m, api.Frame{Op: op, Who: -1, Res: api.ResOk})
			}
		}
	}
}

func TestStepThatDoesNotGoOn(t *testing.T) { // P13.1: other cells, no layout, no Pc, and one that is over
	for _, op := range []int{in, out} {
		for pc := range 5 {
			f := api.Frame{Op: op, Pc: pc, Who: 2, Val: 4, X: 5, Y: 6}
			for _, c := range edges() {
				m := filled(size(c))
				for _, other := range []api.Mem{m[:len(m)-1], append(slices.Clone(m), 1), m[:1], {}, nil} {
					still(t, c, other, f)
				}
				for _, n := range noPcs() {
					no := f
					no.Pc = n
					still(t, c, m, no)
				}
				for _, n := range append(far(), 1, 2, 3, 4, 5, 6) {
					no := f
					no.Res = n
					still(t, c, m, no)
				}
			}
			for _, c := range wrong() {
				still(t, c, filled(30), f)
				still(t, c, nil, f)
			}
		}
	}
}

func TestStepOfAnybody(t *testing.T) { // P13.1: who it is, and what its registers are, stays with the call
	for _, c := range edges() {
		m := holding(c, 5, counted(50, c.I/2)...)
		for _, op := range []int{in, out} {
			for pc := range 5 {
				for _, n := range append(far(), 0, 1, 7, 8) {
					f := api.Frame{Op: op, Pc: pc, Who: n, Val: uint64(n), X: uint64(n), Y: uint64(n) + 7}
					want, call := ownStep(c, m, f)
					asks(t, c, m, f, want, call)
				}
			}
		}
	}
}
