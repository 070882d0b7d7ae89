package steal_test

import (
	"math"
	"slices"
	"testing"

	"poacher/api"
	"poacher/steal"
)

const most = math.MaxUint64

// far are numbers that name nothing; narrower kinds would take some of them for small ones.
func far() []int {
	return []int{
		math.MinInt, math.MinInt + 1, math.MinInt + 2, -1 << 62, math.MinInt32, -1 << 32, -1<<32 + 2, -256, -254, -16, -8, -4, -3, -2, -1,
		256, 257, 258, 1 << 16, math.MaxInt32, 1 << 32, 1<<32 + 1, 1<<32 + 2, 1<<32 + 3, 1 << 62, math.MaxInt - 1, math.MaxInt,
	}
}

func overs() []int { return append(far(), 1, 2, 3, 4, 5, 6, 8) }

// otherOps are Ops that are no steal, and Ops that there are none of.
func otherOps() []int { return append(far(), 0, 1, 3, 4, 5, 6, 7, 8, 9, 16) }

func noPcs() []int { return append(far(), 4, 5, 6, 7, 8, 12, 16) }

func noWorkers(c api.Conf) []int { return append(far(), c.W, c.W+1, c.W+2, c.W+8) }

// A worker's cells are told anew, without package lay: what they begin at, and what each of them is from there.
func begins(c api.Conf, w int) int { return 6 + 2*c.I + w*(3+c.D) }

func topAt(c api.Conf, w int) int { return begins(c, w) }

func bottomAt(c api.Conf, w int) int { return begins(c, w) + 1 }

func slotAt(c api.Conf, w int, x uint64) int { return begins(c, w) + 3 + int(x%uint64(c.D)) }

func size(c api.Conf) int { return begins(c, c.W) }

// layouts are all that may be.
func layouts() []api.Conf {
	var out []api.Conf
	for w := 1; w <= 8; w++ {
		for _, d := range []int{1, 2, 4, 8, 16} {
			for i := 1; i <= 16; i++ {
				for spin := 0; spin <= 4; spin++ {
					out = append(out, api.Conf{W: w, D: d, I: i, Spin: spin})
				}
			}
		}
	}
	return out
}

// edges are layouts at the limits, and some between.
func edges() []api.Conf {
	out := []api.Conf{{W: 2, D: 2, I: 1}, {W: 3, D: 4, I: 5, Spin: 1}, {W: 5, D: 8, I: 7, Spin: 2}}
	for _, w := range []int{1, 8} {
		for _, d := range []int{1, 2, 16} {
			out = append(out, api.Conf{W: w, D: d, I: 1}, api.Conf{W: w, D: d, I: 16, Spin: 4})
		}
	}
	return out
}

// wrong are layouts that may not be: one part of each is wrong, or all.
func wrong() []api.Conf {
	out := []api.Conf{{}, {W: -1, D: -1, I: -1, Spin: -1}, {W: 9, D: 32, I: 17, Spin: 5}}
	part := func(set func(c *api.Conf, n int), beyond ...int) {
		for _, n := range append(beyond, math.MinInt, -256, -2, -1, 256, 1<<32, 1<<32+2, math.MaxInt) {
			c := api.Conf{W: 2, D: 4, I: 3, Spin: 1}
			set(&c, n)
			out = append(out, c)
		}
	}
	part(func(c *api.Conf, n int) { c.W = n }, 0, 9, 10, 16)
	part(func(c *api.Conf, n int) { c.D = n }, 0, 3, 5, 6, 7, 9, 12, 15, 17, 24, 32)
	part(func(c *api.Conf, n int) { c.I = n }, 0, 17, 18, 32)
	part(func(c *api.Conf, n int) { c.Spin = n }, 5, 6, 8)
	return out
}

// filled are cells of which no two are the same, and none is 0.
func filled(n int) api.Mem {
	m := make(api.Mem, n)
	for i := range m {
		m[i] = uint64(i+1) * 0x9e3779b97f4a7c15
	}
	return m
}

// atDeque are filled cells, with that top and that bottom of worker w.
func atDeque(c api.Conf, w int, top, bottom uint64) api.Mem {
	m := filled(size(c))
	m[topAt(c, w)], m[bottomAt(c, w)] = top, bottom
	return m
}

// sizes are those that a layout which may not be might seem to have, and some more.
func sizes(c api.Conf) []int {
	out := []int{0, 1, 6, size(api.Conf{W: 2, D: 4, I: 3, Spin: 1})}
	if n := size(c); n > 0 && n < 1000 && c.W < 100 && c.D < 100 && c.I < 100 {
		out = append(out, n)
	}
	return out
}

// tops are those around 0, 2^32, 2^63 and 2^64.
func tops() []uint64 {
	var out []uint64
	for n := range uint64(5) {
		out = append(out, n, 1<<32-2+n, 1<<63-2+n, most-n)
	}
	return append(out, most-15, most-16)
}

// gaps are how far a bottom lies behind a top: empty, one, two, full, more than there is room for, and less than 0.
func gaps(c api.Conf) []uint64 {
	d := uint64(c.D)
	out := []uint64{0, 1, 2, 3, d - 1, d, d + 1, 2 * d, most, most - 1, -d, -d - 1}
	return append(out, 1<<32-1, 1<<32, 1<<32+1, 1<<63-1, 1<<63, 1<<63+1, 1<<63+2)
}

func vals() []uint64 { return []uint64{0, 1, 7, 1 << 32, 1 << 63, most} }

// workers are the first one, the last one, and one between.
func workers(c api.Conf) []int { return slices.Compact([]int{0, c.W / 2, c.W - 1}) }

// full are calls of which no field is 0, but for what is asked.
func full(op, pc, who, res int) api.Frame {
	return api.Frame{Op: op, Pc: pc, Who: who, Val: 4, X: 5, Y: 6, Res: res}
}

// stepped is told anew, without a loop, and without the packages below.
func stepped(c api.Conf, m api.Mem, f api.Frame) (api.Mem, api.Frame) {
	out := slices.Clone(m)
	top, bottom := topAt(c, f.Who), bottomAt(c, f.Who)
	over := func(res int, val uint64) api.Frame { return api.Frame{Op: f.Op, Who: f.Who, Val: val, Res: res} }
	switch f.Pc {
	case 0:
		f.Pc, f.Y = 1, m[top]
	case 1:
		f.Pc, f.X = 2, m[bottom]
		if behind := f.X - f.Y; behind == 0 || behind >= 1<<63 {
			f = over(3, 0)
		}
	case 2:
		f.Pc, f.Val = 3, m[slotAt(c, f.Who, f.Y)]
	case 3:
		if m[top] != f.Y {
			return out, over(4, 0)
		}
		out[top] = f.Y + 1
		f = over(1, f.Val)
	}
	return out, f
}

// asks that Step answers these.
func asks(t *testing.T, c api.Conf, m api.Mem, f api.Frame, want api.Mem, call api.Frame) {
	t.Helper()
	got, g := steal.Step(c, m, f)
	if !slices.Equal(got, want) || g != call {
		t.Fatalf("Step(%+v, %v, %+v) = %v, %+v, want %v, %+v", c, m, f, got, g, want, call)
	}
}

// still asks that a step leaves all as it was.
func still(t *testing.T, c api.Conf, m api.Mem, f api.Frame) {
	t.Helper()
	asks(t, c, m, f, m, f)
}

// goes asks that f goes on: what is stepped is told anew.
func goes(t *testing.T, c api.Conf, m api.Mem, f api.Frame) {
	t.Helper()
	want, call := stepped(c, m, f)
	if call == f {
		t.Fatalf("%+v would be handed back, also if it went on", f)
	}
	asks(t, c, m, f, want, call)
}

func TestSteps(t *testing.T) { // P9.1
	if n := steal.Steps(); n != 4 {
		t.Errorf("Steps() = %d", n)
	}
}

func TestGoesAtEachLayout(t *testing.T) { // P9.1: as many cells as it has, one fewer, one more, and none
	for _, c := range layouts() {
		n := size(c)
		for pc := range 4 {
			f := full(api.OpSteal, pc, c.W-1, api.ResNone)
			goes(t, c, filled(n), f)
			for _, m := range []api.Mem{filled(n - 1), filled(n + 1), filled(n)[:n-1], filled(2 * n), filled(1), {}, nil} {
				still(t, c, m, f)
			}
		}
	}
}

func TestGoesAtNoLayout(t *testing.T) { // P9.1: each limit, one past it, and below 1; also with no cells, of which such a layout has as many
	for _, c := range wrong() {
		for _, n := range sizes(c) {
			for pc := range 4 {
				for _, who := range []int{0, 1, 8, -1} {
					still(t, c, filled(n), full(api.OpSteal, pc, who, api.ResNone))
				}
			}
		}
		still(t, c, nil, api.Frame{Op: api.OpSteal})
	}
}

func TestGoesOfEachWorker(t *testing.T) { // P9.1: and of none
	for _, c := range edges() {
		m := filled(size(c))
		for pc := range 4 {
			for w := range c.W {
				goes(t, c, m, full(api.OpSteal, pc, w, api.ResNone))
			}
			for _, w := range noWorkers(c) {
				still(t, c, m, full(api.OpSteal, pc, w, api.ResNone))
			}
		}
	}
}

func TestGoesOfOneThatIsOver(t *testing.T) { // P9.1: by each result, and by results that there are none of
	for _, c := range edges() {
		m := filled(size(c))
		for _, res := range overs() {
			for pc := range 4 {
				still(t, c, m, full(api.OpSteal, pc, 0, res))
				still(t, c, m, api.Frame{Op: api.OpSteal, Pc: pc, Res: res})
			}
		}
	}
}

func TestGoesOfEachOp(t *testing.T) { // P9.1: a steal alone
	for _, c := range edges() {
		m := filled(size(c))
		for _, op := range otherOps() {
			for pc := range 4 {
				still(t, c, m, full(op, pc, 0, api.ResNone))
				still(t, c, m, api.Frame{Op: op, Pc: pc})
			}
		}
	}
}

func TestGoesOfNoPc(t *testing.T) { // P9.1: four steps, and no other one
	for _, c := range edges() {
		m := filled(size(c))
		for _, pc := range noPcs() {
			still(t, c, m, full(api.OpSteal, pc, 0, api.ResNone))
			still(t, c, m, api.Frame{Op: api.OpSteal, Pc: pc})
		}
	}
}

func TestStepByHand(t *testing.T) { // P9.1: written out; worker 1 has top 13, bottom 14, slots 16 and 17
	c := api.Conf{W: 2, D: 2, I: 1}
	base := filled(18)
	base[16], base[17] = 50, 51
	for i, x := range []struct {
		f           api.Frame
		top, bottom uint64
		at          int
		has         uint64
		want        api.Frame
	}{
		{api.Frame{Pc: 0, Val: 7, X: 3, Y: 4}, 5, 6, 0, 0, api.Frame{Pc: 1, Val: 7, X: 3, Y: 5}},
		{api.Frame{Pc: 0, Val: 7, X: 3, Y: 4}, 6, 5, 0, 0, api.Frame{Pc: 1, Val: 7, X: 3, Y: 6}}, // Bottom is not asked yet
		{api.Frame{Pc: 0, Val: 7, X: 3, Y: 4}, most, 0, 0, 0, api.Frame{Pc: 1, Val: 7, X: 3, Y: most}},
		{api.Frame{Pc: 1, Val: 7, X: 3, Y: 5}, 5, 6, 0, 0, api.Frame{Pc: 2, Val: 7, X: 6, Y: 5}},
		{api.Frame{Pc: 1, Val: 7, X: 3, Y: 5}, 5, 5, 0, 0, api.Frame{Res: api.ResEmpty}},
		{api.Frame{Pc: 1, Val: 7, X: 9, Y: 5}, 5, 4, 0, 0, api.Frame{Res: api.ResEmpty}},         // the X that is loaded is asked, not the one there was
		{api.Frame{Pc: 1, Val: 7, X: 3, Y: 5}, 9, 6, 0, 0, api.Frame{Pc: 2, Val: 7, X: 6, Y: 5}}, // Y is asked, not Top
		{api.Frame{Pc: 1, Val: 7, X: 3, Y: 6}, 5, 6, 0, 0, api.Frame{Res: api.ResEmpty}},
		{api.Frame{Pc: 1, Val: 7, X: 3, Y: most}, most, 0, 0, 0, api.Frame{Pc: 2, Val: 7, X: 0, Y: most}},
		{api.Frame{Pc: 1, Val: 7, X: 3, Y: 0}, 0, most, 0, 0, api.Frame{Res: api.ResEmpty}},
		{api.Frame{Pc: 1, Val: 7, X: 3, Y: most}, most, most, 0, 0, api.Frame{Res: api.ResEmpty}},
		{api.Frame{Pc: 1, Val: 7, X: 3, Y: 1}, 1, 1 << 63, 0, 0, api.Frame{Pc: 2, Val: 7, X: 1 << 63, Y: 1}},
		{api.Frame{Pc: 1, Val: 7, X: 3, Y: 0}, 0, 1 << 63, 0, 0, api.Frame{Res: api.ResEmpty}},
		{api.Frame{Pc: 1, Val: 7, X: 3, Y: 5}, 5, 5 + 9, 0, 0, api.Frame{Pc: 2, Val: 7, X: 14, Y: 5}}, // more than there is room for
		{api.Frame{Pc: 2, Val: 7, X: 6, Y: 5}, 5, 6, 0, 0, api.Frame{Pc: 3, Val: 51, X: 6, Y: 5}},
		{api.Frame{Pc: 2, Val: 7, X: 5, Y: 6}, 5, 6, 0, 0, api.Frame{Pc: 3, Val: 50, X: 5, Y: 6}}, // Slot Y, not X, and not Top
		{api.Frame{Pc: 2, Val: 7, X: 0, Y: most}, most, 0, 0, 0, api.Frame{Pc: 3, Val: 51, X: 0, Y: most}},
		{api.Frame{Pc: 2, Val: 7, X: 5, Y: 5}, 5, 5, 0, 0, api.Frame{Pc: 3, Val: 51, X: 5, Y: 5}}, // nothing is asked any more
		{api.Frame{Pc: 3, Val: 7, X: 6, Y: 5}, 5, 6, 13, 6, api.Frame{Val: 7, Res: api.ResOk}},
		{api.Frame{Pc: 3, Val: 7, X: 6, Y: 5}, 6, 6, 0, 0, api.Frame{Res: api.ResAbort}},
		{api.Frame{Pc: 3, Val: 7, X: 6, Y: 5}, 4, 6, 0, 0, api.Frame{Res: api.ResAbort}},
		{api.Frame{Pc: 3, Val: 7, X: 5, Y: 6}, 5, 6, 0, 0, api.Frame{Res: api.ResAbort}}, // Y is exchanged, not X
		{api.Frame{Pc: 3, Val: 0, X: 5, Y: 5}, 5, 5, 13, 6, api.Frame{Res: api.ResOk}},
		{api.Frame{Pc: 3, Val: 7, X: 0, Y: most}, most, 0, 13, 0, api.Frame{Val: 7, Res: api.ResOk}},
		{api.Frame{Pc: 3, Val: 7, X: 0, Y: most}, 0, 0, 0, 0, api.Frame{Res: api.ResAbort}},
		{api.Frame{Pc: 3, Val: most, X: 0, Y: 0}, 0, 0, 13, 1, api.Frame{Val: most, Res: api.ResOk}},
	} {
		m := slices.Clone(base)
		m[13], m[14] = x.top, x.bottom
		want := slices.Clone(m)
		if x.at > 0 {
			want[x.at] = x.has
		}
		x.f.Op, x.want.Op, x.f.Who, x.want.Who = api.OpSteal, api.OpSteal, 1, 1
		if got, g := steal.Step(c, m, x.f); !slices.Equal(got, want) || g != x.want {
			t.Errorf("%d: %v, %+v", i, got, g)
		}
	}
}

func TestStepAtEachDeque(t *testing.T) { // P9.1: empty, one, two, full, more, and less than 0; X and Y are those of a steal, or not
	for _, c := range edges() {
		for _, w := range workers(c) {
			for _, top := range tops() {
				for _, gap := range gaps(c) {
					m, bottom := atDeque(c, w, top, top+gap), top+gap
					for pc := range 4 {
						for _, x := range []uint64{bottom, bottom + 1, top, 8} {
							for _, y := range []uint64{top, top + 1, top - 1, x} {
								f := api.Frame{Op: api.OpSteal, Pc: pc, Who: w, Val: 77, X: x, Y: y}
								want, call := stepped(c, m, f)
								asks(t, c, m, f, want, call)
							}
						}
					}
				}
			}
		}
	}
}

func TestStepOfAnyNumbers(t *testing.T) { // P9.1: each value, and cells of any numbers
	numbers := append(vals(), tops()...)
	for _, c := range edges() {
		m := filled(size(c))
		for _, w := range workers(c) {
			numbers := append(numbers, m[topAt(c, w)], m[bottomAt(c, w)])
			for pc := range 4 {
				for _, n := range numbers {
					for _, val := range vals() {
						f := api.Frame{Op: api.OpSteal, Pc: pc, Who: w, Val: val, X: n + val, Y: n}
						want, call := stepped(c, m, f)
						asks(t, c, m, f, want, call)
					}
				}
			}
		}
	}
}

func TestStepSeesHowFarBottomLiesBehind(t *testing.T) { // P9.1: step 1, at each power of 2, to either side; whatever Top is by then
	c := api.Conf{W: 1, D: 2, I: 1}
	asked := func(y, bottom uint64, goesOn bool) {
		t.Helper()
		want := api.Frame{Op: api.OpSteal, Res: api.ResEmpty}
		if goesOn {
			want = api.Frame{Op: api.OpSteal, Pc: 2, Val: 7, X: bottom, Y: y}
		}
		for _, top := range []uint64{y, bottom, y + 3} {
			m := atDeque(c, 0, top, bottom)
			asks(t, c, m, api.Frame{Op: api.OpSteal, Pc: 1, Val: 7, X: 9, Y: y}, m, want)
		}
	}
	for _, y := range tops() {
		asked(y, y, false)
		asked(y, y+1<<63, false)
		for n := range 63 {
			asked(y, y+1<<n, true)
			asked(y, y+1<<63-1<<n, true)
			asked(y, y-1<<n, false)
			asked(y, y+1<<63+1<<n, false)
		}
	}
}

func TestStepSeesWhetherTopHasTurned(t *testing.T) { // P9.1: step 3, by each power of 2, to either side, and not at all
	for _, c := range edges() {
		for _, w := range workers(c) {
			for _, y := range tops() {
				f := api.Frame{Op: api.OpSteal, Pc: 3, Who: w, Val: 7, X: y + 1, Y: y}
				m := atDeque(c, w, y, y+1)
				want := slices.Clone(m)
				want[topAt(c, w)]++
				asks(t, c, m, f, want, api.Frame{Op: api.OpSteal, Who: w, Val: 7, Res: api.ResOk})
				for n := range 64 {
					for _, top := range []uint64{y + 1<<n, y - 1<<n} {
						m[topAt(c, w)] = top
						asks(t, c, m, f, m, api.Frame{Op: api.OpSteal, Who: w, Res: api.ResAbort})
					}
				}
			}
		}
	}
}

func TestStepChangesOneCellAtMost(t *testing.T) { // P9.1: no step but the last one, and that one the top of Who's deque
	for _, c := range edges() {
		for w := range c.W {
			for _, y := range tops() {
				for pc := range 4 {
					m := atDeque(c, w, y, y+9)
					got, _ := steal.Step(c, m, api.Frame{Op: api.OpSteal, Pc: pc, Who: w, Val: 77, X: y, Y: y})
					for i := range m {
						if (got[i] != m[i]) != (pc == 3 && i == topAt(c, w)) {
							t.Fatalf("step %d at worker %d of %+v: cell %d was %d and is %d", pc, w, c, i, m[i], got[i])
						}
					}
				}
			}
		}
	}
}

// some asks that Some answers this.
func some(t *testing.T, c api.Conf, m api.Mem, w int, want bool) {
	t.Helper()
	if got := steal.Some(c, m, w); got != want {
		t.Fatalf("Some(%+v, %v, %d) = %v", c, m, w, got)
	}
}

func TestSomeByHand(t *testing.T) { // P9.1: written out; worker 0 has top 8, bottom 9, worker 1 has top 13, bottom 14
	c := api.Conf{W: 2, D: 2, I: 1}
	for i, x := range []struct {
		top, bottom uint64
		want        bool
	}{
		{0, 0, false}, {0, 1, true}, {0, 2, true}, {0, 3, false}, {1, 0, false},
		{5, 5, false}, {5, 6, true}, {5, 7, true}, {5, 8, false}, {5, 4, false}, {6, 4, false},
		{most, most, false}, {most, 0, true}, {most, 1, true}, {most, 2, false}, {0, most, false},
		{1<<63 - 1, 1 << 63, true}, {1 << 63, 1<<63 - 1, false}, {0, 1 << 63, false}, {1 << 63, 0, false}, {0, 1 << 32, false},
	} {
		m := make(api.Mem, 18)
		m[13], m[14] = x.top, x.bottom
		if steal.Some(c, m, 1) != x.want || steal.Some(c, m, 0) {
			t.Errorf("%d: worker 1: %v, worker 0: %v", i, steal.Some(c, m, 1), steal.Some(c, m, 0))
		}
	}
}

func TestSomeOfEachDeque(t *testing.T) { // P9.1: empty, one, more, full, and without a list; numbers that are 0 are numbers, too
	for _, c := range edges() {
		for _, w := range workers(c) {
			for _, top := range tops() {
				for _, gap := range gaps(c) {
					m, bare := atDeque(c, w, top, top+gap), make(api.Mem, size(c))
					bare[topAt(c, w)], bare[bottomAt(c, w)] = top, top+gap
					for _, m := range []api.Mem{m, bare} {
						some(t, c, m, w, gap >= 1 && gap <= uint64(c.D))
					}
				}
			}
		}
	}
}

func TestSomeOfNoDeque(t *testing.T) { // P9.1: other cells than there are, no worker, and no layout
	for _, c := range edges() {
		m := make(api.Mem, size(c))
		for w := range c.W {
			m[bottomAt(c, w)] = 1
		}
		for w := range c.W {
			some(t, c, m, w, true)
			for _, other := range []api.Mem{m[:len(m)-1], append(slices.Clone(m), 0), {}, nil} {
				some(t, c, other, w, false)
			}
		}
		for _, w := range noWorkers(c) {
			some(t, c, m, w, false)
		}
		some(t, c, make(api.Mem, size(c)), 0, false)
	}
	for _, c := range wrong() {
		for _, n := range sizes(c) {
			for _, w := range []int{0, 1, 8, -1} {
				m := make(api.Mem, n)
				for i := range m {
					m[i] = uint64(i)
				}
				some(t, c, m, w, false)
			}
		}
	}
}
