package event_test

import (
	"math"
	"slices"
	"testing"

	"poacher/api"
	"poacher/event"
	"poacher/note"
	"poacher/wait"
)

const most = math.MaxUint64

// The event's cell is told anew, as all cells are.
const eventAt = 2

// wt waits, one wakes one, every wakes all.
const wt, one, every = api.OpWait, api.OpNote, api.OpAll

// far are numbers that name nothing; narrower kinds would take some of them for small ones.
func far() []int {
	return []int{
		math.MinInt, math.MinInt + 1, math.MinInt + 5, math.MinInt + 6, math.MinInt + 7, -1 << 62, math.MinInt32, -1 << 32, -1<<32 + 5, -1<<32 + 6, -1<<32 + 7, -256, -251, -250, -249, -16, -8, -7, -6, -5, -4, -3, -2, -1,
		256, 257, 261, 262, 263, 1 << 16, math.MaxInt32, 1 << 32, 1<<32 + 1, 1<<32 + 5, 1<<32 + 6, 1<<32 + 7, 1 << 62, math.MaxInt - 1, math.MaxInt,
	}
}

// ops are those at the event.
func ops() []int { return []int{wt, one, every} }

// otherOps are Ops of calls that are not at the event, and Ops that there are none of.
func otherOps() []int { return append(far(), 0, 1, 2, 3, 4, 8, 9, 13, 14, 15, 16, 99) }

// pcs are all that a call at the event may have, and some that none has.
func pcs() []int { return append(far(), 0, 1, 2, 3, 4, 5, 6, 8) }

// Cells are told anew, without package lay.
func parkAt(c api.Conf, w int) int { return 6 + 2*c.I + w*(3+c.D) + 2 }

func size(c api.Conf) int { return 6 + 2*c.I + c.W*(3+c.D) }

// edges are layouts at the limits, and some between.
func edges() []api.Conf {
	out := []api.Conf{{W: 2, D: 2, I: 2}, {W: 3, D: 4, I: 5, Spin: 1}, {W: 5, D: 8, I: 7, Spin: 2}}
	for _, w := range []int{1, 8} {
		for _, d := range []int{1, 16} {
			out = append(out, api.Conf{W: w, D: d, I: 1}, api.Conf{W: w, D: d, I: 16, Spin: 4})
		}
	}
	return out
}

// wrong are layouts that may not be: one part of each is wrong, or all.
func wrong() []api.Conf {
	out := []api.Conf{{}, {W: -1, D: -1, I: -1, Spin: -1}, {W: 9, D: 32, I: 17, Spin: 5}}
	part := func(set func(c *api.Conf, n int), beyond ...int) {
		for _, n := range append(beyond, math.MinInt, -2, -1, 256, 1<<32, 1<<32+2, math.MaxInt) {
			c := api.Conf{W: 2, D: 4, I: 3, Spin: 1}
			set(&c, n)
			out = append(out, c)
		}
	}
	part(func(c *api.Conf, n int) { c.W = n }, 0, 9, 16)
	part(func(c *api.Conf, n int) { c.D = n }, 0, 3, 5, 17, 32)
	part(func(c *api.Conf, n int) { c.I = n }, 0, 17, 32)
	part(func(c *api.Conf, n int) { c.Spin = n }, 5, 6, 8)
	return out
}

// filled are cells of which no two are the same, and none is 0 or 1.
func filled(n int) api.Mem {
	m := make(api.Mem, n)
	for i := range m {
		m[i] = uint64(i+1) * 0x9e3779b97f4a7c15
	}
	return m
}

// holding are filled cells, with that event, and that number in all park cells.
func holding(c api.Conf, e, parked uint64) api.Mem {
	m := filled(size(c))
	m[eventAt] = e
	for w := range c.W {
		m[parkAt(c, w)] = parked
	}
	return m
}

// words are of no mask, of some bits, and of all, at some epochs.
func words() []uint64 {
	var out []uint64
	for _, high := range []uint64{0, 1, 9, 1<<32 - 1, 1<<47 - 1, 1<<48 - 1} {
		for _, low := range []uint64{0, 1, 2, 5, 6, 0x80, 0xff, 0x8000, 0xff00, 0xffff} {
			out = append(out, high*65536+low)
		}
	}
	return out
}

// full is a call of which no field is 0, but for what is asked.
func full(op, pc, who, res int) api.Frame {
	return api.Frame{Op: op, Pc: pc, Who: who, Val: 4, X: 5, Y: 6, Res: res}
}

// asks asks that Step answers these.
func asks(t *testing.T, c api.Conf, m api.Mem, f api.Frame, want api.Mem, call api.Frame) {
	t.Helper()
	got, g := event.Step(c, m, f)
	if !slices.Equal(got, want) || g != call {
		t.Fatalf("Step(%+v, %v, %+v) = %v, %+v, want %v, %+v", c, m, f, got, g, want, call)
	}
}

// alike asks that Step does what wait's or note's own does; that others are handed back.
func alike(t *testing.T, c api.Conf, m api.Mem, f api.Frame) {
	t.Helper()
	want, call := m, f
	switch f.Op {
	case wt:
		want, call = wait.Step(c, m, f)
	case one, every:
		want, call = note.Step(c, m, f)
	}
	asks(t, c, m, f, want, call)
}

func TestStepAtEachEvent(t *testing.T) { // P16.1: each Op, at each Pc, with park cells of 0, 1, and another number; registers that are the event's, or not
	for _, c := range edges() {
		for _, e := range words() {
			for _, parked := range []uint64{0, 1, 2, most} {
				m := holding(c, e, parked)
				for op := -1; op <= 8; op++ {
					for pc := -1; pc <= 5; pc++ {
						for _, who := range []int{0, c.W - 1, c.W} {
							alike(t, c, m, api.Frame{Op: op, Pc: pc, Who: who, Val: 7, X: e, Y: e})
							alike(t, c, m, api.Frame{Op: op, Pc: pc, Who: who, X: e ^ 65536, Y: e ^ 1})
							alike(t, c, m, api.Frame{Op: op, Pc: pc, Who: who, Y: uint64(who)})
						}
					}
				}
			}
		}
	}
}

func TestStepAtAnyPc(t *testing.T) { // P16.1: those that no call has, also with results, and of who there is none of
	for _, c := range edges() {
		m := filled(size(c))
		for _, op := range append(ops(), otherOps()...) {
			for _, pc := range pcs() {
				for _, res := range []int{0, 1, 3, 4, 5, -1, math.MinInt, math.MaxInt} {
					alike(t, c, m, full(op, pc, 0, res))
				}
				for _, who := range []int{-1, c.W, 15, 16, math.MinInt, math.MaxInt} {
					alike(t, c, m, full(op, pc, who, 0))
				}
			}
		}
	}
}

func TestStepOfOtherOps(t *testing.T) { // P16.1: handed back as they are, wherever they are, and whether they are over or not
	for _, c := range append(edges(), wrong()...) {
		for _, n := range []int{0, 12, 18, 40} {
			m := filled(n)
			for _, op := range otherOps() {
				for pc := range 6 {
					asks(t, c, m, api.Frame{Op: op, Pc: pc}, m, api.Frame{Op: op, Pc: pc})
					asks(t, c, m, full(op, pc, 1, 0), m, full(op, pc, 1, 0))
					asks(t, c, m, full(op, pc, 1, 1), m, full(op, pc, 1, 1))
				}
			}
		}
	}
}

func TestStepAtNoLayout(t *testing.T) { // P16.1: where the layout may not be, or there are not as many cells as it has, all is handed back
	for _, op := range append(ops(), otherOps()...) {
		for pc := range 6 {
			for _, c := range wrong() {
				for _, n := range []int{0, 6, 12, 26, 40} {
					asks(t, c, filled(n), full(op, pc, 0, 0), filled(n), full(op, pc, 0, 0))
					asks(t, c, make(api.Mem, n), api.Frame{Op: op, Pc: pc}, make(api.Mem, n), api.Frame{Op: op, Pc: pc})
				}
			}
			for _, c := range edges() {
				for _, n := range []int{0, 1, 6, size(c) - 1, size(c) + 1, 2 * size(c)} {
					asks(t, c, filled(n), full(op, pc, 0, 0), filled(n), full(op, pc, 0, 0))
				}
			}
		}
	}
}

func TestStepByHand(t *testing.T) { // P16.1: written out; of 18 cells, 2 is the event, 10 and 15 are the park cells, which are 9 ahead of it
	c := api.Conf{W: 2, D: 2, I: 1}
	for i, x := range []struct {
		f     api.Frame
		event uint64
		at    int
		has   uint64
		want  api.Frame
	}{
		{api.Frame{Op: wt, Who: 1, Val: 7}, 0x90001, 0, 0, api.Frame{Op: wt, Pc: 1, Who: 1, Val: 7, X: 0x90001}},
		{api.Frame{Op: wt, Pc: 1, Who: 1, X: 0x90000}, 0x90001, 0, 0, api.Frame{Op: wt, Pc: 2, Who: 1, X: 0x90000, Y: 0x90001}},
		{api.Frame{Op: wt, Pc: 1, Who: 1, X: 0x80000}, 0x90001, 0, 0, api.Frame{Op: wt, Who: 1, Res: api.ResAbort}},
		{api.Frame{Op: wt, Pc: 2, Who: 1, X: 0x90000, Y: 0x90001}, 0x90001, 2, 0x90003, api.Frame{Op: wt, Pc: 3, Who: 1, X: 0x90000, Y: 0x90001}},
		{api.Frame{Op: wt, Pc: 2, Who: 1, X: 0x90000, Y: 0x90001}, 0x90000, 0, 0, api.Frame{Op: wt, Pc: 1, Who: 1, X: 0x90000, Y: 0x90001}},
		{api.Frame{Op: wt, Pc: 3, Who: 1, X: 6, Y: 5}, 0x90003, 0, 0, api.Frame{Op: wt, Pc: 4, Who: 1, X: 6, Y: 9}},
		{api.Frame{Op: wt, Pc: 4, Who: 1, X: 6, Y: 5}, 0x90003, 15, 0, api.Frame{Op: wt, Who: 1, Res: api.ResOk}},
		{api.Frame{Op: one, Who: 1, Val: 7}, 0x90003, 0, 0, api.Frame{Op: one, Pc: 1, Who: 1, Val: 7, X: 0x90003}},
		{api.Frame{Op: one, Pc: 1, X: 0x90003}, 0x90003, 2, 0xa0002, api.Frame{Op: one, Pc: 2, X: 0x90003}},
		{api.Frame{Op: one, Pc: 1, X: 0x90002}, 0x90003, 0, 0, api.Frame{Op: one, X: 0x90002}},
		{api.Frame{Op: one, Pc: 1, X: 0x90000}, 0x90000, 2, 0xa0000, api.Frame{Op: one, Res: api.ResEmpty}},
		{api.Frame{Op: one, Pc: 2, Y: 1}, 0x90003, 15, 1, api.Frame{Op: one, Val: 1, Res: api.ResOk}},
		{api.Frame{Op: every, Who: 1, Val: 7}, 0x90003, 0, 0, api.Frame{Op: every, Pc: 1, Who: 1, Val: 7, X: 0x90003}},
		{api.Frame{Op: every, Pc: 1, X: 0x90003}, 0x90003, 2, 0xa0000, api.Frame{Op: every, Pc: 2, X: 0x90003, Y: 3}},
		{api.Frame{Op: every, Pc: 2, X: 0x90003, Y: 3}, 0xa0000, 10, 1, api.Frame{Op: every, Pc: 2, X: 0x90003, Y: 2}},
		{api.Frame{Op: every, Pc: 2, X: 0x90003, Y: 2}, 0xa0000, 15, 1, api.Frame{Op: every, Val: 3, Res: api.ResOk}},
	} {
		m := filled(18)
		m[2], m[10], m[15] = x.event, 9, 9
		want := slices.Clone(m)
		if x.at > 0 {
			want[x.at] = x.has
		}
		if got, g := event.Step(c, m, x.f); !slices.Equal(got, want) || g != x.want {
			t.Errorf("%d: %v, %+v", i, got, g)
		}
	}
}
