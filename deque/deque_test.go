package deque_test

import (
	"math"
	"slices"
	"testing"

	"poacher/api"
	"poacher/deque"
	"poacher/pop"
	"poacher/push"
	"poacher/steal"
)

const most = math.MaxUint64

// far are numbers that name nothing; narrower kinds would take some of them for small ones.
func far() []int {
	return []int{
		math.MinInt, math.MinInt + 1, math.MinInt + 2, -1 << 62, math.MinInt32, -1 << 32, -1<<32 + 1, -1<<32 + 2, -256, -255, -16, -8, -4, -3, -2, -1,
		256, 257, 258, 1 << 16, math.MaxInt32, 1 << 32, 1<<32 + 1, 1<<32 + 2, 1<<32 + 4, 1 << 62, math.MaxInt - 1, math.MaxInt,
	}
}

// otherOps are Ops of calls that are at no deque, and Ops that there are none of.
func otherOps() []int { return append(far(), 3, 4, 5, 6, 7, 8, 9, 16) }

// rooms are what a deque may have room for, noRooms what it may not.
func rooms() []int { return []int{1, 2, 4, 8, 16} }

func noRooms() []int { return append(far(), 0, 3, 5, 6, 7, 9, 10, 12, 15, 17, 24, 31, 32, 64) }

func noThieves() []int { return append(far(), 9, 10, 16) }

// A worker's cells are told anew, without package lay: what they begin at, and what each of them is from there.
func begins(c api.Conf, w int) int { return 6 + 2*c.I + w*(3+c.D) }

func size(c api.Conf) int { return begins(c, c.W) }

// The cells of one deque alone: its top, its bottom, and its first slot.
const (
	topAt    = 8
	bottomAt = 9
	slotsAt  = 11
)

// edges are layouts at the limits, and some between.
func edges() []api.Conf {
	out := []api.Conf{{W: 2, D: 2, I: 1}, {W: 3, D: 4, I: 5, Spin: 1}, {W: 5, D: 8, I: 7, Spin: 2}}
	for _, w := range []int{1, 8} {
		for _, d := range []int{1, 2, 16} {
			out = append(out, api.Conf{W: w, D: d, I: 1}, api.Conf{W: w, D: d, I: 16, Spin: 4})
		}
	}
	return out
}

// wrong are layouts that may not be: one part of each is wrong, or all.
func wrong() []api.Conf {
	out := []api.Conf{{}, {W: -1, D: -1, I: -1, Spin: -1}, {W: 9, D: 32, I: 17, Spin: 5}}
	part := func(set func(c *api.Conf, n int), beyond ...int) {
		for _, n := range append(beyond, math.MinInt, -256, -2, -1, 256, 1<<32, 1<<32+2, math.MaxInt) {
			c := api.Conf{W: 2, D: 4, I: 3, Spin: 1}
			set(&c, n)
			out = append(out, c)
		}
	}
	part(func(c *api.Conf, n int) { c.W = n }, 0, 9, 16)
	part(func(c *api.Conf, n int) { c.D = n }, 0, 3, 5, 17, 32)
	part(func(c *api.Conf, n int) { c.I = n }, 0, 17, 32)
	part(func(c *api.Conf, n int) { c.Spin = n }, 5, 6, 8)
	return out
}

// filled are cells of which no two are the same, and none is 0.
func filled(n int) api.Mem {
	m := make(api.Mem, n)
	for i := range m {
		m[i] = uint64(i+1) * 0x9e3779b97f4a7c15
	}
	return m
}

// atDeque are filled cells, with that top and that bottom of worker w.
func atDeque(c api.Conf, w int, top, bottom uint64) api.Mem {
	m := filled(size(c))
	m[begins(c, w)], m[begins(c, w)+1] = top, bottom
	return m
}

// alone are the cells of one deque alone, that has these numbers from top on.
func alone(d int, top uint64, has ...uint64) api.Mem {
	m := make(api.Mem, slotsAt+d)
	m[topAt], m[bottomAt] = top, top+uint64(len(has))
	for i, n := range has {
		m[slotsAt+(top+uint64(i))%uint64(d)] = n
	}
	return m
}

func tops() []uint64 { return []uint64{0, 1, 5, 1 << 32, 1<<63 - 1, 1 << 63, most - 1, most} }

// gaps are how far a bottom lies behind a top: empty, one, two, full, more than there is room for, and less than 0.
func gaps(c api.Conf) []uint64 {
	d := uint64(c.D)
	return []uint64{0, 1, 2, d - 1, d, d + 1, most, most - 1, 1 << 32, 1<<63 - 1, 1 << 63}
}

// workers are the first one, the last one, and one between.
func workers(c api.Conf) []int { return slices.Compact([]int{0, c.W / 2, c.W - 1}) }

// pcs are how many steps a call at a deque has.
func pcs(op int) int { return []int{4, 7, 4}[op] }

// ownStep is what a call's own package answers.
func ownStep(c api.Conf, m api.Mem, f api.Frame) (api.Mem, api.Frame) {
	switch f.Op {
	case api.OpPush:
		return push.Step(c, m, f)
	case api.OpPop:
		return pop.Step(c, m, f)
	}
	return steal.Step(c, m, f)
}

// asks that Step answers these.
func asks(t *testing.T, c api.Conf, m api.Mem, f api.Frame, want api.Mem, call api.Frame) {
	t.Helper()
	got, g := deque.Step(c, m, f)
	if !slices.Equal(got, want) || g != call {
		t.Fatalf("Step(%+v, %v, %+v) = %v, %+v, want %v, %+v", c, m, f, got, g, want, call)
	}
}

// still asks that a step leaves all as it was.
func still(t *testing.T, c api.Conf, m api.Mem, f api.Frame) {
	t.Helper()
	asks(t, c, m, f, m, f)
}

func TestStepByHand(t *testing.T) { // P10.1: written out, at a deque with room for 2 that has 50, from 5 on: slot 12
	c := api.Conf{W: 1, D: 2, I: 1}
	m := alone(2, 5, 50)
	for i, x := range []struct {
		f    api.Frame
		at   int
		has  uint64
		want api.Frame
	}{
		{api.Frame{Op: 0, Val: 7}, 8, 5, api.Frame{Op: 0, Pc: 1, Val: 7, X: 6}},
		{api.Frame{Op: 0, Pc: 1, Val: 7, X: 6}, 8, 5, api.Frame{Op: 0, Pc: 2, Val: 7, X: 6, Y: 5}},
		{api.Frame{Op: 0, Pc: 1, Val: 7, X: 7}, 8, 5, api.Frame{Op: 0, Val: 7, Res: api.ResFull}},
		{api.Frame{Op: 0, Pc: 2, Val: 7, X: 6, Y: 5}, 11, 7, api.Frame{Op: 0, Pc: 3, Val: 7, X: 6, Y: 5}},
		{api.Frame{Op: 0, Pc: 3, Val: 7, X: 6, Y: 5}, 9, 7, api.Frame{Op: 0, Val: 7, Res: api.ResOk}},
		{api.Frame{Op: 1, Val: 7}, 8, 5, api.Frame{Op: 1, Pc: 1, Val: 7, X: 5}},
		{api.Frame{Op: 1, Pc: 1, X: 5}, 9, 5, api.Frame{Op: 1, Pc: 2, X: 5}},
		{api.Frame{Op: 1, Pc: 2, X: 5}, 8, 5, api.Frame{Op: 1, Pc: 3, X: 5, Y: 5}},
		{api.Frame{Op: 1, Pc: 2, X: 4}, 8, 5, api.Frame{Op: 1, Pc: 6, X: 4, Y: 5}},
		{api.Frame{Op: 1, Pc: 3, X: 5, Y: 5}, 8, 5, api.Frame{Op: 1, Pc: 4, Val: 50, X: 5, Y: 5}},
		{api.Frame{Op: 1, Pc: 3, X: 5, Y: 4}, 8, 5, api.Frame{Op: 1, Val: 50, Res: api.ResOk}},
		{api.Frame{Op: 1, Pc: 4, Val: 50, X: 5, Y: 5}, 8, 6, api.Frame{Op: 1, Pc: 5, Val: 50, X: 5, Y: 5}},
		{api.Frame{Op: 1, Pc: 4, Val: 50, X: 4, Y: 4}, 8, 5, api.Frame{Op: 1, Pc: 6, Val: 50, X: 4, Y: 4}},
		{api.Frame{Op: 1, Pc: 5, Val: 50, X: 8, Y: 5}, 9, 9, api.Frame{Op: 1, Val: 50, Res: api.ResOk}},
		{api.Frame{Op: 1, Pc: 6, Val: 50, X: 8, Y: 5}, 9, 9, api.Frame{Op: 1, Res: api.ResEmpty}},
		{api.Frame{Op: 2, Val: 7}, 8, 5, api.Frame{Op: 2, Pc: 1, Val: 7, Y: 5}},
		{api.Frame{Op: 2, Pc: 1, Y: 5}, 8, 5, api.Frame{Op: 2, Pc: 2, X: 6, Y: 5}},
		{api.Frame{Op: 2, Pc: 1, Y: 6}, 8, 5, api.Frame{Op: 2, Res: api.ResEmpty}},
		{api.Frame{Op: 2, Pc: 2, X: 6, Y: 5}, 8, 5, api.Frame{Op: 2, Pc: 3, Val: 50, X: 6, Y: 5}},
		{api.Frame{Op: 2, Pc: 3, Val: 50, X: 6, Y: 5}, 8, 6, api.Frame{Op: 2, Val: 50, Res: api.ResOk}},
		{api.Frame{Op: 2, Pc: 3, Val: 50, X: 6, Y: 4}, 8, 5, api.Frame{Op: 2, Res: api.ResAbort}},
		{api.Frame{Op: 3, Val: 7}, 8, 5, api.Frame{Op: 3, Val: 7}},
		{api.Frame{Op: -1, Val: 7}, 8, 5, api.Frame{Op: -1, Val: 7}},
	} {
		want := slices.Clone(m)
		want[x.at] = x.has
		if got, g := deque.Step(c, m, x.f); !slices.Equal(got, want) || g != x.want {
			t.Errorf("%d: %v, %+v", i, got, g)
		}
	}
}

func TestStepOfPushPopAndSteal(t *testing.T) { // P10.1: each Pc, at deques that are empty, have one, more, are full, and have no list
	for _, c := range edges() {
		for _, w := range workers(c) {
			for _, top := range tops() {
				for _, gap := range gaps(c) {
					m, bottom := atDeque(c, w, top, top+gap), top+gap
					for op := range 3 {
						for pc := range pcs(op) {
							for _, x := range []uint64{bottom, bottom - 1, top} {
								f := api.Frame{Op: op, Pc: pc, Who: w, Val: 77, X: x, Y: top}
								want, call := ownStep(c, m, f)
								if call == f {
									t.Fatalf("%+v would be handed back, also if it went on", f)
								}
								asks(t, c, m, f, want, call)
							}
						}
					}
				}
			}
		}
	}
}

func TestStepOfAnotherOp(t *testing.T) { // P10.1: handed back, whatever else it has
	for _, c := range append(edges(), wrong()...) {
		for _, n := range []int{30, 13, 1, 0} {
			if n == 30 && size(c) > 0 && size(c) <= api.MaxMem {
				n = size(c)
			}
			m := filled(n)
			for _, op := range otherOps() {
				for pc := range 8 {
					still(t, c, m, api.Frame{Op: op, Pc: pc, Val: 4, X: 5, Y: 6})
				}
				still(t, c, m, api.Frame{Op: op, Who: c.W - 1, Res: api.ResOk})
			}
		}
	}
}

func TestStepThatDoesNotGoOn(t *testing.T) { // P10.1: other cells, no layout, no worker, no Pc, and one that is over
	for op := range 3 {
		for pc := range pcs(op) {
			f := api.Frame{Op: op, Pc: pc, Val: 4, X: 5, Y: 6}
			for _, c := range edges() {
				m := filled(size(c))
				for _, other := range []api.Mem{m[:len(m)-1], append(slices.Clone(m), 1), m[:1], {}, nil} {
					still(t, c, other, f)
				}
				for _, n := range append(far(), 8, 9) {
					no := f
					no.Who = n
					still(t, c, m, no)
					no = f
					no.Pc = n
					still(t, c, m, no)
					no = f
					no.Res = n
					still(t, c, m, no)
				}
			}
			for _, c := range wrong() {
				still(t, c, filled(30), f)
				still(t, c, nil, f)
			}
		}
	}
}

// tell is a call's next step at the cells of one deque alone, told anew, without the packages below.
func tell(m api.Mem, f *api.Frame) {
	d := uint64(len(m) - slotsAt)
	slot := func(x uint64) *uint64 { return &m[slotsAt+x%d] }
	over := func(res int, val uint64) { *f = api.Frame{Op: f.Op, Val: val, Res: res} }
	if f.Who != 0 || f.Res != 0 || f.Op < 0 || f.Op > 2 || f.Pc < 0 || f.Pc >= pcs(f.Op) {
		return
	}
	switch [2]int{f.Op, f.Pc} {
	case [2]int{0, 0}:
		f.Pc, f.X = 1, m[bottomAt]
	case [2]int{0, 1}:
		f.Pc, f.Y = 2, m[topAt]
		if f.X-f.Y >= d {
			over(2, f.Val)
		}
	case [2]int{0, 2}:
		f.Pc, *slot(f.X) = 3, f.Val
	case [2]int{0, 3}:
		m[bottomAt] = f.X + 1
		over(1, f.Val)
	case [2]int{1, 0}:
		f.Pc, f.X = 1, m[bottomAt]-1
	case [2]int{1, 1}:
		f.Pc, m[bottomAt] = 2, f.X
	case [2]int{1, 2}:
		f.Pc, f.Y = 3, m[topAt]
		if f.X-f.Y >= 1<<63 {
			f.Pc = 6
		}
	case [2]int{1, 3}:
		f.Pc, f.Val = 4, *slot(f.X)
		if f.X != f.Y {
			over(1, f.Val)
		}
	case [2]int{1, 4}:
		f.Pc = 6
		if m[topAt] == f.Y {
			f.Pc, m[topAt] = 5, f.Y+1
		}
	case [2]int{1, 5}:
		m[bottomAt] = f.X + 1
		over(1, f.Val)
	case [2]int{1, 6}:
		m[bottomAt] = f.X + 1
		over(3, 0)
	case [2]int{2, 0}:
		f.Pc, f.Y = 1, m[topAt]
	case [2]int{2, 1}:
		f.Pc, f.X = 2, m[bottomAt]
		if f.X == f.Y || f.X-f.Y >= 1<<63 {
			over(3, 0)
		}
	case [2]int{2, 2}:
		f.Pc, f.Val = 3, *slot(f.Y)
	case [2]int{2, 3}:
		if m[topAt] != f.Y {
			over(4, 0)
			return
		}
		m[topAt]++
		over(1, f.Val)
	}
}

// played is told anew, with a loop over places, and without the packages below.
func played(d, thieves int, own []api.Frame, who []int) (api.Mem, []api.Frame, []api.Frame) {
	m, at := make(api.Mem, slotsAt+d), make([]api.Frame, thieves+1)
	for i := range at {
		at[i].Op = -1
	}
	var over []api.Frame
	next := 0
	for _, i := range who {
		switch {
		case i < 0 || i > thieves:
			continue
		case at[i].Op != -1:
		case i > 0:
			at[i] = api.Frame{Op: 2}
		default:
			for next < len(own) && own[next].Op != 0 && own[next].Op != 1 {
				next++
			}
			if next == len(own) {
				continue
			}
			at[0] = api.Frame{Op: own[next].Op, Val: own[next].Val}
			next++
		}
		tell(m, &at[i])
		if at[i].Res != 0 {
			at[i].Who = i
			over, at[i] = append(over, at[i]), api.Frame{Op: -1}
		}
	}
	return m, over, at
}

// plays asks that Play answers these.
func plays(t *testing.T, d, thieves int, own []api.Frame, who []int, m api.Mem, over, at []api.Frame) {
	t.Helper()
	gotM, gotOver, gotAt := deque.Play(d, thieves, own, who)
	if !slices.Equal(gotM, m) || !slices.Equal(gotOver, over) || !slices.Equal(gotAt, at) {
		t.Fatalf("Play(%d, %d, %+v, %v) = %v, %+v, %+v, want %v, %+v, %+v", d, thieves, own, who, gotM, gotOver, gotAt, m, over, at)
	}
}

// playsAsTold asks that Play answers what is told anew.
func playsAsTold(t *testing.T, d, thieves int, own []api.Frame, who []int) {
	t.Helper()
	m, over, at := played(d, thieves, own, who)
	plays(t, d, thieves, own, who, m, over, at)
}

// idle are as many that have no call.
func idle(n int) []api.Frame { return slices.Repeat([]api.Frame{{Op: -1}}, n) }

// pushes are calls that push these.
func pushes(vals ...uint64) []api.Frame {
	var out []api.Frame
	for _, n := range vals {
		out = append(out, api.Frame{Op: api.OpPush, Val: n})
	}
	return out
}

func pops(n int) []api.Frame { return slices.Repeat([]api.Frame{{Op: api.OpPop}}, n) }

// full is a call of which no field is 0, but perhaps its Op.
func full(op int, val uint64) api.Frame {
	return api.Frame{Op: op, Pc: 3, Who: 2, Val: val, X: 5, Y: 6, Res: api.ResOk}
}

func turns(n, who int) []int { return slices.Repeat([]int{who}, n) }

// drawn answers what draws numbers below n: of no chance, but reckoned.
func drawn(seed int) func(n int) int {
	x := uint64(seed)*0x9e3779b97f4a7c15 + 1
	return func(n int) int {
		x = x*6364136223846793005 + 1442695040888963407
		return int((x >> 33) % uint64(n))
	}
}

func TestPlayByHand(t *testing.T) { // P10.2: written out; top 8, bottom 9, slots from 11 on
	none := api.Frame{Op: -1}
	pushed := func(n uint64) api.Frame { return api.Frame{Op: api.OpPush, Val: n, Res: api.ResOk} }
	popped := func(n uint64) api.Frame { return api.Frame{Op: api.OpPop, Val: n, Res: api.ResOk} }
	stolen := func(who int, n uint64) api.Frame {
		return api.Frame{Op: api.OpSteal, Who: who, Val: n, Res: api.ResOk}
	}
	for i, x := range []struct {
		d, thieves int
		own        []api.Frame
		who        []int
		m          api.Mem
		over, at   []api.Frame
	}{
		{1, 0, nil, nil, api.Mem{11: 0}, nil, []api.Frame{none}},
		{1, 2, nil, nil, api.Mem{11: 0}, nil, []api.Frame{none, none, none}},
		{2, 0, pushes(7), nil, api.Mem{12: 0}, nil, []api.Frame{none}},
		{2, 0, pushes(7), turns(1, 0), api.Mem{12: 0}, nil, []api.Frame{{Pc: 1, Val: 7}}},
		{2, 0, pushes(7), turns(2, 0), api.Mem{12: 0}, nil, []api.Frame{{Pc: 2, Val: 7}}},
		{2, 0, pushes(7), turns(3, 0), api.Mem{11: 7, 12: 0}, nil, []api.Frame{{Pc: 3, Val: 7}}},
		{2, 0, pushes(7), turns(4, 0), api.Mem{9: 1, 11: 7, 12: 0}, []api.Frame{pushed(7)}, []api.Frame{none}},
		{2, 0, pushes(7), turns(99, 0), api.Mem{9: 1, 11: 7, 12: 0}, []api.Frame{pushed(7)}, []api.Frame{none}},
		{2, 0, pushes(7, 8), turns(5, 0), api.Mem{9: 1, 11: 7, 12: 0}, []api.Frame{pushed(7)}, []api.Frame{{Pc: 1, Val: 8, X: 1}}},
		{1, 0, pushes(7, 8), turns(5, 0), api.Mem{9: 1, 11: 7}, []api.Frame{pushed(7)}, []api.Frame{{Pc: 1, Val: 8, X: 1}}},
		{1, 0, pushes(7, 8), turns(6, 0), api.Mem{9: 1, 11: 7}, []api.Frame{pushed(7), {Val: 8, Res: api.ResFull}}, []api.Frame{none}},
		{1, 0, append(pushes(7), pops(2)...), turns(13, 0), api.Mem{8: 1, 9: 0, 11: 7}, []api.Frame{pushed(7), popped(7)}, []api.Frame{{Op: 1, Pc: 3 + 3, X: 0, Y: 1}}},
		{1, 0, append(pushes(7), pops(2)...), turns(14, 0), api.Mem{8: 1, 9: 1, 11: 7}, []api.Frame{pushed(7), popped(7), {Op: 1, Res: api.ResEmpty}}, []api.Frame{none}},
		{4, 0, pops(1), turns(2, 0), api.Mem{9: most, 14: 0}, nil, []api.Frame{{Op: 1, Pc: 2, X: most}}},
		{4, 0, pops(1), turns(4, 0), api.Mem{14: 0}, []api.Frame{{Op: 1, Res: api.ResEmpty}}, []api.Frame{none}},
		{2, 1, nil, turns(1, 1), api.Mem{12: 0}, nil, []api.Frame{none, {Op: 2, Pc: 1}}},
		{2, 1, nil, turns(2, 1), api.Mem{12: 0}, []api.Frame{{Op: 2, Who: 1, Res: api.ResEmpty}}, []api.Frame{none, none}},
		{2, 1, nil, turns(3, 1), api.Mem{12: 0}, []api.Frame{{Op: 2, Who: 1, Res: api.ResEmpty}}, []api.Frame{none, {Op: 2, Pc: 1}}},
		{2, 8, nil, []int{8, 3, 8, 3}, api.Mem{12: 0}, []api.Frame{{Op: 2, Who: 8, Res: api.ResEmpty}, {Op: 2, Who: 3, Res: api.ResEmpty}}, idle(9)},
		{2, 2, pushes(7, 8), append(turns(8, 0), 2, 2, 2), api.Mem{9: 2, 11: 7, 12: 8}, []api.Frame{pushed(7), pushed(8)}, []api.Frame{none, none, {Op: 2, Pc: 3, Val: 7, X: 2}}},
		{2, 2, pushes(7, 8), append(turns(8, 0), 2, 2, 2, 2), api.Mem{8: 1, 9: 2, 11: 7, 12: 8}, []api.Frame{pushed(7), pushed(8), stolen(2, 7)}, []api.Frame{none, none, none}},
		{2, 2, pushes(7, 8), append(turns(8, 0), 2, 1, 2, 1, 2, 1, 1, 2, 2, 2, 1, 2, 2), api.Mem{8: 2, 9: 2, 11: 7, 12: 8},
			[]api.Frame{pushed(7), pushed(8), stolen(1, 7), {Op: 2, Who: 2, Res: api.ResAbort}, stolen(2, 8)}, []api.Frame{none, {Op: 2, Pc: 1, Y: 1}, none}},
		{1, 1, append(pushes(7), pops(1)...), append(turns(7, 0), 1, 1), api.Mem{9: 0, 11: 7}, []api.Frame{pushed(7), {Op: 2, Who: 1, Res: api.ResEmpty}}, []api.Frame{{Op: 1, Pc: 3}, none}},
		{1, 1, append(pushes(7), pops(1)...), append(turns(5, 0), 1, 1, 0, 0, 1, 1, 0, 0, 0), api.Mem{8: 1, 9: 1, 11: 7}, []api.Frame{pushed(7), stolen(1, 7), {Op: 1, Res: api.ResEmpty}}, []api.Frame{none, none}},
	} {
		gotM, over, at := deque.Play(x.d, x.thieves, x.own, x.who)
		if !slices.Equal(gotM, x.m) || !slices.Equal(over, x.over) || !slices.Equal(at, x.at) {
			t.Errorf("%d: %v, %+v, %+v", i, gotM, over, at)
		}
	}
}

// nothing asks that Play answers nothing three times.
func nothing(t *testing.T, d, thieves int) {
	t.Helper()
	for _, own := range [][]api.Frame{nil, pushes(7)} {
		for _, who := range [][]int{nil, turns(9, 0), {0, 1, 2}} {
			if m, over, at := deque.Play(d, thieves, own, who); len(m)+len(over)+len(at) > 0 {
				t.Fatalf("Play(%d, %d, %+v, %v) = %v, %+v, %+v", d, thieves, own, who, m, over, at)
			}
		}
	}
}

func TestPlayThatMayNotBe(t *testing.T) { // P10.2: no such room, more who steal than may be, fewer than none, and both
	for _, d := range noRooms() {
		for thieves := range 9 {
			nothing(t, d, thieves)
		}
		nothing(t, d, -1)
	}
	for _, thieves := range noThieves() {
		for _, d := range append(rooms(), 0, 3) {
			nothing(t, d, thieves)
		}
	}
}

func TestPlayOfEachSize(t *testing.T) { // P10.2: each room, and each number who steal
	for _, d := range rooms() {
		for thieves := range 9 {
			all := make([]int, thieves+1)
			for i := range all {
				all[i] = i
			}
			own := append(pushes(1, 2, 3, 4, 5, 6, 7, 8, 9, 10, 11, 12, 13, 14, 15, 16, 17, 18), pops(20)...)
			playsAsTold(t, d, thieves, own, nil)
			playsAsTold(t, d, thieves, own, turns(200, 0))
			playsAsTold(t, d, thieves, own, turns(200, thieves))
			playsAsTold(t, d, thieves, own, slices.Repeat(all, 60))
			slices.Reverse(all)
			playsAsTold(t, d, thieves, own, append(turns(80, 0), slices.Repeat(all, 60)...))
			playsAsTold(t, d, thieves, nil, slices.Repeat(all, 9))
		}
	}
}

func TestPlayLeavesOtherCallsOut(t *testing.T) { // P10.2: ahead of the first one, between, and behind the last one; they take no turn
	own := append(pushes(7, 8), append(pops(3), pushes(9)...)...)
	for _, op := range append(otherOps(), api.OpSteal) {
		for _, others := range [][]api.Frame{{{Op: op}}, {full(op, 9)}, {full(op, 9), {Op: op}, {Op: api.OpDeq}, full(op, 8)}} {
			for at := range len(own) + 1 {
				with := slices.Insert(slices.Clone(own), at, others...)
				for n := range 37 {
					who := append(turns(n, 0), 1, 1, 1)
					m, over, hand := played(2, 1, own, who)
					plays(t, 2, 1, with, who, m, over, hand)
				}
			}
		}
	}
	for _, op := range append(otherOps(), api.OpSteal) {
		plays(t, 2, 0, []api.Frame{{Op: op}, full(op, 4)}, turns(9, 0), make(api.Mem, 13), nil, idle(1))
	}
}

func TestPlayBeginsEachCallAnew(t *testing.T) { // P10.2: of what own has, the Op and the Val alone are taken
	own := []api.Frame{full(api.OpPush, 7), full(api.OpPop, 4), full(api.OpPush, 0), full(api.OpPush, most), {Op: api.OpPush, Pc: -1, Who: math.MinInt, Val: 3, Res: 9}, full(api.OpPop, 1)}
	var bare []api.Frame
	for _, f := range own {
		bare = append(bare, api.Frame{Op: f.Op, Val: f.Val})
	}
	for n := range 40 {
		m, over, at := played(2, 0, bare, turns(n, 0))
		plays(t, 2, 0, own, turns(n, 0), m, over, at)
	}
	plays(t, 2, 0, []api.Frame{full(api.OpPop, 4)}, turns(1, 0), make(api.Mem, 13), nil, []api.Frame{{Op: api.OpPop, Pc: 1, Val: 4, X: most}})
	plays(t, 2, 0, []api.Frame{full(api.OpPush, 4)}, turns(1, 0), make(api.Mem, 13), nil, []api.Frame{{Op: api.OpPush, Pc: 1, Val: 4}})
}

func TestPlayOfWhomThereIsNone(t *testing.T) { // P10.2: they do nothing, and take nobody's turn
	for thieves := range 9 {
		who := []int{0, 0, 0, 0, thieves, 0, thieves, 0, 0, thieves, 0, 0, thieves, thieves}
		own := pushes(7, 8, 9)
		m, over, at := played(2, thieves, own, who)
		for _, none := range append(far(), thieves+1, thieves+2, thieves+9) {
			plays(t, 2, thieves, own, turns(9, none), make(api.Mem, 13), nil, idle(thieves+1))
			for i := range len(who) + 1 {
				plays(t, 2, thieves, own, slices.Insert(slices.Clone(who), i, none), m, over, at)
			}
		}
	}
}

func TestPlayOfOneTurnEach(t *testing.T) { // P10.2: it begins and does its first step in one turn; what is over, and what begins, are two
	own := append(pushes(7, 8), pops(3)...)
	steps := []int{4, 4, 4, 6, 4} // the second push finds room, the first pop has two numbers, the second one the last one
	n := 0
	for call, many := range steps {
		for step := range many {
			_, over, at := deque.Play(2, 0, own, turns(n, 0))
			if len(over) != call || (at[0].Op == -1) != (step == 0) || step > 0 && (at[0].Op != own[call].Op || at[0].Pc == 0) {
				t.Fatalf("%d turns: %+v, %+v", n, over, at)
			}
			n++
		}
	}
	for _, who := range []int{1, 3} {
		for n := range 9 {
			_, over, at := deque.Play(1, 3, own, turns(n, who)) // at an empty deque, of two steps each
			if len(over) != n/2 || (at[who].Op == api.OpSteal) != (n%2 == 1) || at[0].Op != -1 || at[2].Op != -1 {
				t.Fatalf("%d turns of %d: %+v, %+v", n, who, over, at)
			}
		}
	}
}

func TestPlayOfOwnThatIsDone(t *testing.T) { // P10.2: the owner does nothing any more, and all others go on
	for _, own := range [][]api.Frame{nil, {}, pushes(7), append(pushes(7, 8), pops(1)...)} {
		m, over, at := played(4, 1, own, turns(20, 0))
		for _, n := range []int{21, 22, 100} {
			plays(t, 4, 1, own, turns(n, 0), m, over, at)
			playsAsTold(t, 4, 1, own, append(turns(n, 0), 1, 0, 1, 0, 1, 0, 1, 0, 0))
		}
	}
}

// inAllScripts hands on all lists of n who are below many; the list is changed behind each.
func inAllScripts(many, n int, do func(who []int)) {
	who := make([]int, n)
	for {
		do(who)
		i := 0
		for i < n && who[i] == many-1 {
			who[i] = 0
			i++
		}
		if i == n {
			return
		}
		who[i]++
	}
}

func TestPlayInAllOrders(t *testing.T) { // P10.2: all lists of who, of one and of two who steal, ahead of which the owner did some
	owns := [][]api.Frame{append(pushes(7), pops(2)...), append(pushes(7, 8), pops(2)...), append(pushes(7), append(pops(1), pushes(8)...)...)}
	for _, d := range []int{1, 2} {
		for _, own := range owns {
			for _, ahead := range []int{0, 4, 8} {
				first := turns(ahead, 0)
				inAllScripts(2, 10, func(who []int) { playsAsTold(t, d, 1, own, append(first[:ahead:ahead], who...)) })
				inAllScripts(3, 7, func(who []int) { playsAsTold(t, d, 2, own, append(first[:ahead:ahead], who...)) })
			}
		}
	}
}

// script is who, drawn, some of them more often than others; some are none.
func script(draw func(n int) int, thieves, n int) []int {
	var who []int
	often := draw(thieves + 1)
	for range n {
		switch draw(8) {
		case 0:
			who = append(who, often)
		case 1:
			who = append(who, thieves+1)
		case 2, 3:
			who = append(who, 0)
		default:
			who = append(who, draw(thieves+1))
		}
	}
	return who
}

// calls are drawn pushes, each with a number of its own, and pops; some are others.
func calls(draw func(n int) int, n int) []api.Frame {
	var own []api.Frame
	for i := range n {
		switch draw(9) {
		case 0, 1, 2, 3, 4:
			own = append(own, api.Frame{Op: api.OpPush, Val: uint64(1000 + i)})
		case 5:
			own = append(own, full(draw(12)+2, 5))
		default:
			own = append(own, api.Frame{Op: api.OpPop})
		}
	}
	return own
}

func TestPlayInDrawnOrders(t *testing.T) { // P10.2: of each room, and each number who steal
	for _, d := range rooms() {
		for thieves := range 9 {
			for seed := range 12 {
				draw := drawn(1000*d + 100*thieves + seed)
				own := calls(draw, draw(60))
				playsAsTold(t, d, thieves, own, script(draw, thieves, draw(900)))
			}
		}
	}
}

// rested is told anew, without the packages below.
func rested(m api.Mem, at []api.Frame) (api.Mem, []api.Frame) {
	m, at = slices.Clone(m), slices.Clone(at)
	for i := range at {
		for n := 0; n < 20 && at[i].Op != -1 && at[i].Res == 0; n++ {
			tell(m, &at[i])
		}
	}
	return m, at
}

// rests asks that Rest answers these.
func rests(t *testing.T, d int, m api.Mem, at []api.Frame, want api.Mem, calls []api.Frame) {
	t.Helper()
	got, l := deque.Rest(d, m, at)
	if !slices.Equal(got, want) || !slices.Equal(l, calls) {
		t.Fatalf("Rest(%d, %v, %+v) = %v, %+v, want %v, %+v", d, m, at, got, l, want, calls)
	}
}

// restsAsTold asks that Rest answers what is told anew.
func restsAsTold(t *testing.T, d int, m api.Mem, at []api.Frame) {
	t.Helper()
	want, l := rested(m, at)
	rests(t, d, m, at, want, l)
}

func TestRestByHand(t *testing.T) { // P10.3: written out; top 8, bottom 9, slots 11 and 12
	push1, pop1, steal1 := api.Frame{Op: api.OpPush, Val: 7}, api.Frame{Op: api.OpPop}, api.Frame{Op: api.OpSteal}
	pushed, full := api.Frame{Op: api.OpPush, Val: 7, Res: api.ResOk}, api.Frame{Op: api.OpPush, Val: 7, Res: api.ResFull}
	popped := func(n uint64) api.Frame { return api.Frame{Op: api.OpPop, Val: n, Res: api.ResOk} }
	stolen := func(n uint64) api.Frame { return api.Frame{Op: api.OpSteal, Val: n, Res: api.ResOk} }
	noPop, noSteal := api.Frame{Op: api.OpPop, Res: api.ResEmpty}, api.Frame{Op: api.OpSteal, Res: api.ResEmpty}
	lost := api.Frame{Op: api.OpSteal, Res: api.ResAbort}
	none, nones := api.Frame{Op: -1}, api.Frame{Op: -1, Pc: 2, Who: 3, Val: 4, X: 5, Y: 6}
	for i, x := range []struct {
		m    api.Mem
		at   []api.Frame
		want api.Mem
		l    []api.Frame
	}{
		{alone(2, 0), nil, alone(2, 0), nil},
		{alone(2, 5, 50), nil, alone(2, 5, 50), nil},
		{alone(2, 5, 50), []api.Frame{none, nones}, alone(2, 5, 50), []api.Frame{none, nones}},
		{alone(2, 0), []api.Frame{push1}, alone(2, 0, 7), []api.Frame{pushed}},
		{alone(2, 0), []api.Frame{push1, push1, push1}, alone(2, 0, 7, 7), []api.Frame{pushed, pushed, full}},
		{alone(2, 0), []api.Frame{push1, pop1, push1}, api.Mem{8: 1, 9: 2, 11: 7, 12: 7}, []api.Frame{pushed, popped(7), pushed}},
		{alone(2, 0), []api.Frame{pop1, push1}, alone(2, 0, 7), []api.Frame{noPop, pushed}},
		{alone(2, 0), []api.Frame{steal1, push1}, alone(2, 0, 7), []api.Frame{noSteal, pushed}},
		{alone(2, 0), []api.Frame{push1, steal1, none, steal1}, api.Mem{8: 1, 9: 1, 11: 7, 12: 0}, []api.Frame{pushed, stolen(7), none, noSteal}},
		{alone(2, 0, 50, 51), []api.Frame{steal1, pop1}, api.Mem{8: 2, 9: 2, 11: 50, 12: 51}, []api.Frame{stolen(50), popped(51)}},
		{alone(2, 0, 50, 51), []api.Frame{pop1, steal1}, api.Mem{8: 1, 9: 1, 11: 50, 12: 51}, []api.Frame{popped(51), stolen(50)}},
		{alone(2, 0, 50), []api.Frame{{Op: api.OpSteal, Pc: 3, Val: 50, X: 1}, {Op: api.OpSteal, Pc: 2, X: 1}}, api.Mem{8: 1, 9: 1, 11: 50, 12: 0}, []api.Frame{stolen(50), lost}},
		{alone(2, 0, 50), []api.Frame{stolen(9), noPop, pushed, nones}, alone(2, 0, 50), []api.Frame{stolen(9), noPop, pushed, nones}},
		{alone(2, 0, 50), []api.Frame{{Op: api.OpEnq, Val: 3}, {Op: 8}, steal1, {Op: api.OpSteal, Who: 1}, {Op: api.OpPop, Pc: 7}}, api.Mem{8: 1, 9: 1, 11: 50, 12: 0},
			[]api.Frame{{Op: api.OpEnq, Val: 3}, {Op: 8}, stolen(50), {Op: api.OpSteal, Who: 1}, {Op: api.OpPop, Pc: 7}}},
	} {
		got, l := deque.Rest(2, x.m, x.at)
		if !slices.Equal(got, x.want) || !slices.Equal(l, x.l) {
			t.Errorf("%d: %v, %+v", i, got, l)
		}
	}
}

func TestRestThatMayNotBe(t *testing.T) { // P10.3: no such room, and one cell fewer, one more, and none: nothing twice
	nothing := func(d int, m api.Mem) {
		t.Helper()
		for _, at := range [][]api.Frame{nil, idle(2), pushes(7), {{Op: api.OpSteal}, full(3, 4)}} {
			if got, l := deque.Rest(d, m, at); len(got)+len(l) > 0 {
				t.Fatalf("Rest(%d, %v, %+v) = %v, %+v", d, m, at, got, l)
			}
		}
	}
	for _, d := range noRooms() {
		for _, n := range []int{0, 1, 11, 12, 13, 14, 27, 28, 43} {
			nothing(d, filled(n))
		}
		if 0 < d && d < 100 {
			nothing(d, filled(slotsAt+d))
		}
		nothing(d, nil)
	}
	for _, d := range rooms() {
		for n := range 60 {
			if n != slotsAt+d {
				nothing(d, filled(n))
			}
		}
		nothing(d, nil)
	}
}

func TestRestOfEachStep(t *testing.T) { // P10.3: pushes, pops and steals at each Pc, at deques that are empty, have one, more, are full, and have no list
	for _, d := range rooms() {
		c := api.Conf{W: 1, D: d, I: 1}
		for _, top := range tops() {
			for _, gap := range gaps(c) {
				m, bottom := atDeque(c, 0, top, top+gap), top+gap
				var all []api.Frame
				for op := range 3 {
					for pc := range pcs(op) {
						for _, x := range []uint64{bottom, bottom - 1, top} {
							f := api.Frame{Op: op, Pc: pc, Val: 77, X: x, Y: top}
							all = append(all, f)
							restsAsTold(t, d, m, []api.Frame{f})
							restsAsTold(t, d, m, []api.Frame{{Op: -1}, {Op: api.OpSteal}, f, {Op: api.OpPop}, {Op: -1}})
						}
					}
				}
				restsAsTold(t, d, m, all)
			}
		}
	}
}

func TestRestOfOneThatStays(t *testing.T) { // P10.3: no call, one that is over, one of another Op, and one that does not go on; the next one has its turn all the same
	stays := []api.Frame{{Op: -1}, {Op: -1, Pc: 1, Who: 2, Val: 3, X: 4, Y: 5, Res: 1}, full(api.OpPush, 4), full(api.OpSteal, 4)}
	for _, op := range otherOps() {
		stays = append(stays, api.Frame{Op: op}, api.Frame{Op: op, Val: 4, X: 5, Y: 6}, full(op, 4))
	}
	for op := range 3 {
		for _, n := range append(far(), 7, 8) {
			stays = append(stays, api.Frame{Op: op, Pc: n}, api.Frame{Op: op, Who: n}, api.Frame{Op: op, Res: n})
		}
		for _, res := range []int{1, 2, 3, 4, 5} {
			stays = append(stays, api.Frame{Op: op, Res: res}, api.Frame{Op: op, Pc: 2, Val: 4, X: 5, Y: 6, Res: res})
		}
		for who := 1; who < 9; who++ {
			stays = append(stays, api.Frame{Op: op, Who: who})
		}
	}
	for _, d := range rooms() {
		m := alone(d, 3, 50)
		end := alone(d, 3, 50)
		end[topAt]++
		rests(t, d, m, stays, m, stays)
		for _, f := range stays {
			rests(t, d, m, []api.Frame{f}, m, []api.Frame{f})
			rests(t, d, m, []api.Frame{f, {Op: api.OpSteal}, f}, end, []api.Frame{f, {Op: api.OpSteal, Val: 50, Res: api.ResOk}, f})
		}
	}
}

func TestRestInOrder(t *testing.T) { // P10.3: each one till it is over, ahead of the next one, however many there are
	for _, d := range rooms() {
		var at, want []api.Frame
		for n := range d {
			at = append(at, api.Frame{Op: api.OpPush, Val: uint64(n + 1)})
			want = append(want, api.Frame{Op: api.OpPush, Val: uint64(n + 1), Res: api.ResOk})
		}
		for n := range d {
			at = append(at, api.Frame{Op: api.OpSteal})
			want = append(want, api.Frame{Op: api.OpSteal, Val: uint64(n + 1), Res: api.ResOk})
		}
		for range 30 {
			at = append(at, api.Frame{Op: api.OpSteal}, api.Frame{Op: api.OpPop})
			want = append(want, api.Frame{Op: api.OpSteal, Res: api.ResEmpty}, api.Frame{Op: api.OpPop, Res: api.ResEmpty})
		}
		end := alone(d, 0)
		for n := range d {
			end[slotsAt+n] = uint64(n + 1)
		}
		end[topAt], end[bottomAt] = uint64(d), uint64(d)
		rests(t, d, alone(d, 0), at, end, want)
	}
}

func TestRestBehindPlay(t *testing.T) { // P10.3: what Play has answered; Rest changes nothing more once all is over
	for _, d := range rooms() {
		for thieves := range 9 {
			for seed := range 12 {
				draw := drawn(7000*d + 100*thieves + seed)
				own := calls(draw, draw(60))
				m, _, at := deque.Play(d, thieves, own, script(draw, thieves, draw(300)))
				restsAsTold(t, d, m, at)
				end, l := deque.Rest(d, m, at)
				rests(t, d, end, l, end, l)
			}
		}
	}
}
