package wait_test

import (
	"math"
	"slices"
	"testing"

	"poacher/api"
	"poacher/wait"
)

const most = math.MaxUint64

// The event's cell is told anew, as all cells are.
const eventAt = 2

// far are numbers that name nothing; narrower kinds would take some of them for small ones.
func far() []int {
	return []int{
		math.MinInt, math.MinInt + 1, math.MinInt + 2, math.MinInt + 3, math.MinInt + 5, -1 << 62, math.MinInt32, -1 << 32, -1<<32 + 3, -1<<32 + 5, -256, -253, -251, -64, -63, -16, -8, -5, -4, -3, -2, -1,
		64, 65, 256, 257, 259, 261, 1 << 16, math.MaxInt32, 1 << 32, 1<<32 + 1, 1<<32 + 3, 1<<32 + 5, 1 << 62, math.MaxInt - 1, math.MaxInt,
	}
}

func overs() []int { return append(far(), 1, 2, 3, 4, 5, 6, 8) }

// otherOps are Ops that are no wait, and Ops that there are none of.
func otherOps() []int { return append(far(), 0, 1, 2, 3, 4, 6, 7, 8, 9, 13, 16) }

func noPcs() []int { return append(far(), 5, 6, 7, 8, 9, 12, 16) }

// noWorkers are also those that have a bit, but no cells.
func noWorkers(c api.Conf) []int {
	return append(far(), c.W, c.W+1, c.W+2, c.W+8, 14, 15, 16, 17, 31, 32, 48)
}

// Cells are told anew, without package lay.
func parkAt(c api.Conf, w int) int { return 6 + 2*c.I + w*(3+c.D) + 2 }

func size(c api.Conf) int { return 6 + 2*c.I + c.W*(3+c.D) }

// A word's parts are told anew, without package word.
func epoch(e uint64) uint64 { return e / 65536 }

func bit(w int) uint64 { return uint64([]int{1, 2, 4, 8, 16, 32, 64, 128}[w]) }

func has(e uint64, w int) bool { return e/bit(w)%2 == 1 }

// withBit is e with that bit set.
func withBit(e uint64, w int) uint64 {
	if has(e, w) {
		return e
	}
	return e + bit(w)
}

// layouts are all that may be.
func layouts() []api.Conf {
	var out []api.Conf
	for w := 1; w <= 8; w++ {
		for _, d := range []int{1, 2, 4, 8, 16} {
			for i := 1; i <= 16; i++ {
				for spin := 0; spin <= 4; spin++ {
					out = append(out, api.Conf{W: w, D: d, I: i, Spin: spin})
				}
			}
		}
	}
	return out
}

// edges are layouts at the limits, and some between.
func edges() []api.Conf {
	out := []api.Conf{{W: 2, D: 2, I: 1}, {W: 3, D: 4, I: 5, Spin: 1}, {W: 5, D: 8, I: 7, Spin: 2}}
	for _, w := range []int{1, 8} {
		for _, d := range []int{1, 2, 16} {
			out = append(out, api.Conf{W: w, D: d, I: 1}, api.Conf{W: w, D: d, I: 16, Spin: 4})
		}
	}
	return out
}

// wrong are layouts that may not be: one part of each is wrong, or all.
func wrong() []api.Conf {
	out := []api.Conf{{}, {W: -1, D: -1, I: -1, Spin: -1}, {W: 9, D: 32, I: 17, Spin: 5}}
	part := func(set func(c *api.Conf, n int), beyond ...int) {
		for _, n := range append(beyond, math.MinInt, -256, -2, -1, 256, 1<<32, 1<<32+2, math.MaxInt) {
			c := api.Conf{W: 2, D: 4, I: 3, Spin: 1}
			set(&c, n)
			out = append(out, c)
		}
	}
	part(func(c *api.Conf, n int) { c.W = n }, 0, 9, 10, 16)
	part(func(c *api.Conf, n int) { c.D = n }, 0, 3, 5, 6, 7, 9, 12, 15, 17, 24, 32)
	part(func(c *api.Conf, n int) { c.I = n }, 0, 17, 18, 32)
	part(func(c *api.Conf, n int) { c.Spin = n }, 5, 6, 8)
	return out
}

// sizes are those that a layout which may not be might seem to have, and some more.
func sizes(c api.Conf) []int {
	out := []int{0, 1, 3, 6, size(api.Conf{W: 2, D: 4, I: 3, Spin: 1})}
	if n := size(c); n > 0 && n < 1000 && c.W < 100 && c.D < 100 && c.I < 100 {
		out = append(out, n)
	}
	return out
}

// filled are cells of which no two are the same, and none is 0.
func filled(n int) api.Mem {
	m := make(api.Mem, n)
	for i := range m {
		m[i] = uint64(i+1) * 0x9e3779b97f4a7c15
	}
	return m
}

// atEvent are filled cells, with that event, and that number in worker w's park cell.
func atEvent(c api.Conf, w int, e, parked uint64) api.Mem {
	m := filled(size(c))
	m[eventAt], m[parkAt(c, w)] = e, parked
	return m
}

// epochs are those at the edges of 48 bits, of 32, of 16, and those that would be taken for a negative number.
func epochs() []uint64 {
	return []uint64{0, 1, 2, 9, 1<<16 - 1, 1 << 16, 1<<32 - 1, 1 << 32, 1<<47 - 1, 1 << 47, 1<<48 - 2, 1<<48 - 1}
}

// masks are none, each bit alone, some, all workers', and all.
func masks() []uint64 {
	out := []uint64{0, 3, 5, 0x55, 0xaa, 0xf0, 0xff, 0xff00, 0x8001, 0x7fff, 0xfffe, 0xffff}
	for w := range 16 {
		out = append(out, 1<<w)
	}
	return out
}

// words are of each of these epochs and masks.
func words() []uint64 {
	var out []uint64
	for _, high := range epochs() {
		for _, low := range masks() {
			out = append(out, high*65536+low)
		}
	}
	return out
}

// edgeWords are those around 0, 2^16, 2^32, 2^48, 2^63 and 2^64.
func edgeWords() []uint64 {
	out := []uint64{0, 1, 2, 3, most, most - 1, most - 2, most - 0xffff, most - 0xff}
	for _, at := range []uint64{1 << 8, 1 << 15, 1 << 16, 1 << 31, 1 << 32, 1 << 47, 1 << 48, 1 << 62, 1 << 63} {
		out = append(out, at-1, at, at+1)
	}
	return out
}

// parks are what may lie in a park cell.
func parks() []uint64 { return []uint64{0, 1, 2, 1 << 16, 1 << 32, 1 << 63, most - 1, most} }

func vals() []uint64 { return []uint64{0, 1, 7, 1 << 32, 1 << 63, most} }

// workers are the first one, the last one, and one between.
func workers(c api.Conf) []int { return slices.Compact([]int{0, c.W / 2, c.W - 1}) }

// full are calls of which no field is 0, but for what is asked.
func full(op, pc, who, res int) api.Frame {
	return api.Frame{Op: op, Pc: pc, Who: who, Val: 4, X: 5, Y: 6, Res: res}
}

// over is a wait that ended so.
func over(who, res int) api.Frame { return api.Frame{Op: api.OpWait, Who: who, Res: res} }

// stepped is told anew, without a table, and without the packages below.
func stepped(c api.Conf, m api.Mem, f api.Frame) (api.Mem, api.Frame) {
	out := slices.Clone(m)
	switch f.Pc {
	case 0:
		f.Pc, f.X = 1, m[eventAt]
	case 1:
		if epoch(m[eventAt]) != epoch(f.X) {
			return out, over(f.Who, 4)
		}
		f.Pc, f.Y = 2, m[eventAt]
	case 2:
		f.Pc = 1
		if m[eventAt] == f.Y {
			f.Pc, out[eventAt] = 3, withBit(f.Y, f.Who)
		}
	case 3:
		f.Y = m[parkAt(c, f.Who)]
		if f.Y > 0 {
			f.Pc = 4
		}
	case 4:
		out[parkAt(c, f.Who)] = 0
		return out, over(f.Who, 1)
	}
	return out, f
}

// asks asks that Step answers these.
func asks(t *testing.T, c api.Conf, m api.Mem, f api.Frame, want api.Mem, call api.Frame) {
	t.Helper()
	got, g := wait.Step(c, m, f)
	if !slices.Equal(got, want) || g != call {
		t.Fatalf("Step(%+v, %v, %+v) = %v, %+v, want %v, %+v", c, m, f, got, g, want, call)
	}
}

// still asks that a step leaves all as it was.
func still(t *testing.T, c api.Conf, m api.Mem, f api.Frame) {
	t.Helper()
	asks(t, c, m, f, m, f)
}

// goes asks that f goes on: what is stepped is told anew.
func goes(t *testing.T, c api.Conf, m api.Mem, f api.Frame) {
	t.Helper()
	want, call := stepped(c, m, f)
	if call == f {
		t.Fatalf("%+v would be handed back, also if it went on", f)
	}
	asks(t, c, m, f, want, call)
}

func TestStepAtEachLayout(t *testing.T) { // P14.1: as many cells as it has, one fewer, one more, and none
	for _, c := range layouts() {
		n := size(c)
		for pc := range 5 {
			f := full(api.OpWait, pc, c.W-1, api.ResNone)
			goes(t, c, filled(n), f)
			for _, m := range []api.Mem{filled(n - 1), filled(n + 1), filled(n)[:n-1], filled(2 * n), filled(1), {}, nil} {
				still(t, c, m, f)
			}
		}
	}
}

func TestStepAtNoLayout(t *testing.T) { // P14.1: each limit, one past it, and below 1; also with no cells, of which such a layout has as many
	for _, c := range wrong() {
		for _, n := range sizes(c) {
			for pc := range 5 {
				for _, who := range []int{0, 1, 8, -1} {
					still(t, c, filled(n), full(api.OpWait, pc, who, api.ResNone))
					still(t, c, make(api.Mem, n), api.Frame{Op: api.OpWait, Pc: pc, Who: who})
				}
			}
		}
		still(t, c, nil, api.Frame{Op: api.OpWait})
	}
}

func TestStepOfEachWorker(t *testing.T) { // P14.1: and of none
	for _, c := range edges() {
		m := filled(size(c))
		for pc := range 5 {
			for w := range c.W {
				goes(t, c, m, full(api.OpWait, pc, w, api.ResNone))
			}
			for _, w := range noWorkers(c) {
				if w >= 0 && w < c.W {
					continue
				}
				still(t, c, m, full(api.OpWait, pc, w, api.ResNone))
				still(t, c, m, api.Frame{Op: api.OpWait, Pc: pc, Who: w})
			}
		}
	}
}

func TestStepOfOneThatIsOver(t *testing.T) { // P14.1: by each result, and by results that there are none of
	for _, c := range edges() {
		m := filled(size(c))
		for _, res := range overs() {
			for pc := range 5 {
				still(t, c, m, full(api.OpWait, pc, 0, res))
				still(t, c, m, api.Frame{Op: api.OpWait, Pc: pc, Res: res})
			}
		}
	}
}

func TestStepOfOtherOps(t *testing.T) { // P14.1: a wait alone
	for _, c := range edges() {
		m := filled(size(c))
		for _, op := range otherOps() {
			for pc := range 5 {
				still(t, c, m, full(op, pc, 0, api.ResNone))
				still(t, c, m, api.Frame{Op: op, Pc: pc})
			}
		}
	}
}

func TestStepOfNoPc(t *testing.T) { // P14.1: -1, five, and those that lie farther off
	for _, c := range edges() {
		m := filled(size(c))
		for _, pc := range noPcs() {
			still(t, c, m, full(api.OpWait, pc, 0, api.ResNone))
			still(t, c, m, api.Frame{Op: api.OpWait, Pc: pc})
		}
	}
}

func TestStepWithMorePartsWrong(t *testing.T) { // P14.1: each part of what goes on right or wrong, in all ways
	for _, layout := range edges() {
		for parts := range 1 << 6 {
			bad := func(part int) bool { return parts>>part&1 == 1 }
			c, f, n := layout, full(api.OpWait, 4, layout.W-1, api.ResNone), size(layout)
			if bad(0) {
				c.D = 3
			}
			if bad(1) {
				n++
			}
			if bad(2) {
				f.Res = api.ResAbort
			}
			if bad(3) {
				f.Op = api.OpNote
			}
			if bad(4) {
				f.Pc = 5
			}
			if bad(5) {
				f.Who++
			}
			if parts == 0 {
				goes(t, c, filled(n), f)
			} else {
				still(t, c, filled(n), f)
			}
		}
	}
}

func TestStepByHand(t *testing.T) { // P14.1: written out; of 18 cells, 2 is the event, 10 and 15 are the park cells
	c := api.Conf{W: 2, D: 2, I: 1}
	base := filled(18)
	for i, x := range []struct {
		f           api.Frame
		event, park uint64
		at          int
		has         uint64
		want        api.Frame
	}{
		{api.Frame{Pc: 0, Val: 7, X: 3, Y: 4}, 0, 9, 0, 0, api.Frame{Pc: 1, Val: 7, X: 0, Y: 4}},
		{api.Frame{Pc: 0, Val: 7, X: 3, Y: 4}, 0x90000, 9, 0, 0, api.Frame{Pc: 1, Val: 7, X: 0x90000, Y: 4}},
		{api.Frame{Pc: 0, Val: 7, X: 3, Y: 4}, 5, 0, 0, 0, api.Frame{Pc: 1, Val: 7, X: 5, Y: 4}},
		{api.Frame{Pc: 0, Val: 7, X: 3, Y: 4}, 0x90005, 0, 0, 0, api.Frame{Pc: 1, Val: 7, X: 0x90005, Y: 4}},
		{api.Frame{Pc: 0, Val: 7, X: 3, Y: 4}, most, 0, 0, 0, api.Frame{Pc: 1, Val: 7, X: most, Y: 4}},

		{api.Frame{Pc: 1, Val: 7, X: 0x90005, Y: 4}, 0x90005, 1, 0, 0, api.Frame{Pc: 2, Val: 7, X: 0x90005, Y: 0x90005}},
		{api.Frame{Pc: 1, Val: 7, X: 0x90005, Y: 4}, 0x90000, 1, 0, 0, api.Frame{Pc: 2, Val: 7, X: 0x90005, Y: 0x90000}}, // another mask
		{api.Frame{Pc: 1, Val: 7, X: 0x90000, Y: 4}, 0x9ffff, 1, 0, 0, api.Frame{Pc: 2, Val: 7, X: 0x90000, Y: 0x9ffff}},
		{api.Frame{Pc: 1, Val: 7, X: 0x9ffff, Y: 4}, 0x90000, 1, 0, 0, api.Frame{Pc: 2, Val: 7, X: 0x9ffff, Y: 0x90000}},
		{api.Frame{Pc: 1, Val: 7, X: 0x9ffff, Y: 4}, 0xa0000, 1, 0, 0, api.Frame{Res: api.ResAbort}}, // one more, though the words are next to one another
		{api.Frame{Pc: 1, Val: 7, X: 0xa0000, Y: 4}, 0x9ffff, 1, 0, 0, api.Frame{Res: api.ResAbort}},
		{api.Frame{Pc: 1, Val: 7, X: 0x90005, Y: 0x90005}, 0xa0005, 1, 0, 0, api.Frame{Res: api.ResAbort}}, // Y was that of X, and is not any more
		{api.Frame{Pc: 1, Val: 7, X: 0x90005, Y: 0xa0005}, 0x90005, 1, 0, 0, api.Frame{Pc: 2, Val: 7, X: 0x90005, Y: 0x90005}},
		{api.Frame{Pc: 1, Val: 7, X: 5, Y: 5}, 1<<63 + 5, 1, 0, 0, api.Frame{Res: api.ResAbort}},
		{api.Frame{Pc: 1, Val: 7, X: 5, Y: 5}, 1<<32 + 5, 1, 0, 0, api.Frame{Res: api.ResAbort}},
		{api.Frame{Pc: 1, Val: 7, X: 0, Y: 5}, most, 1, 0, 0, api.Frame{Res: api.ResAbort}},
		{api.Frame{Pc: 1, Val: 7, X: most, Y: 5}, most, 1, 0, 0, api.Frame{Pc: 2, Val: 7, X: most, Y: most}},
		{api.Frame{Pc: 1, Val: 0, X: 0, Y: 5}, 0, 1, 0, 0, api.Frame{Pc: 2, Val: 0, X: 0, Y: 0}},

		{api.Frame{Pc: 2, Val: 7, X: 0x90001, Y: 0x90005}, 0x90005, 1, 2, 0x90007, api.Frame{Pc: 3, Val: 7, X: 0x90001, Y: 0x90005}},
		{api.Frame{Pc: 2, Val: 7, X: 0x90001, Y: 0x90007}, 0x90007, 1, 0, 0, api.Frame{Pc: 3, Val: 7, X: 0x90001, Y: 0x90007}}, // set already: that is done, too
		{api.Frame{Pc: 2, Val: 7, X: 0x90001, Y: 0x90005}, 0x90007, 1, 0, 0, api.Frame{Pc: 1, Val: 7, X: 0x90001, Y: 0x90005}}, // it has the new one, not Y
		{api.Frame{Pc: 2, Val: 7, X: 0x90001, Y: 0x90005}, 0x90004, 1, 0, 0, api.Frame{Pc: 1, Val: 7, X: 0x90001, Y: 0x90005}},
		{api.Frame{Pc: 2, Val: 7, X: 0x90001, Y: 0x90005}, 0xa0005, 1, 0, 0, api.Frame{Pc: 1, Val: 7, X: 0x90001, Y: 0x90005}},
		{api.Frame{Pc: 2, Val: 7, X: 0x90001, Y: 0x90005}, 0x90001, 1, 0, 0, api.Frame{Pc: 1, Val: 7, X: 0x90001, Y: 0x90005}}, // Y is exchanged, not X
		{api.Frame{Pc: 2, Val: 7, X: 0x10001, Y: 0x90005}, 0x90005, 0, 2, 0x90007, api.Frame{Pc: 3, Val: 7, X: 0x10001, Y: 0x90005}},
		{api.Frame{Pc: 2, Val: 0, X: 0, Y: 0}, 0, 1, 2, 2, api.Frame{Pc: 3, Val: 0, X: 0, Y: 0}},
		{api.Frame{Pc: 2, Val: 7, X: 0, Y: most - 2}, most - 2, 1, 2, most, api.Frame{Pc: 3, Val: 7, X: 0, Y: most - 2}},
		{api.Frame{Pc: 2, Val: 7, X: 0, Y: 1 << 63}, 1 << 63, 1, 2, 1<<63 + 2, api.Frame{Pc: 3, Val: 7, X: 0, Y: 1 << 63}},

		{api.Frame{Pc: 3, Val: 7, X: 5, Y: 6}, 0x90007, 0, 0, 0, api.Frame{Pc: 3, Val: 7, X: 5, Y: 0}},
		{api.Frame{Pc: 3, Val: 7, X: 5, Y: 6}, 0, 0, 0, 0, api.Frame{Pc: 3, Val: 7, X: 5, Y: 0}}, // the event is not asked any more
		{api.Frame{Pc: 3, Val: 7, X: 5, Y: 6}, 0x90007, 1, 0, 0, api.Frame{Pc: 4, Val: 7, X: 5, Y: 1}},
		{api.Frame{Pc: 3, Val: 7, X: 5, Y: 0}, 0x90007, most, 0, 0, api.Frame{Pc: 4, Val: 7, X: 5, Y: most}},
		{api.Frame{Pc: 3, Val: 7, X: 5, Y: 0}, 0x90007, 1 << 63, 0, 0, api.Frame{Pc: 4, Val: 7, X: 5, Y: 1 << 63}},

		{api.Frame{Pc: 4, Val: 7, X: 5, Y: 6}, 0x90007, 1, 15, 0, api.Frame{Res: api.ResOk}},
		{api.Frame{Pc: 4, Val: 7, X: 5, Y: 0}, 0x90007, 0, 15, 0, api.Frame{Res: api.ResOk}}, // nothing is asked any more
		{api.Frame{Pc: 4, Val: 0, X: 5, Y: 6}, 0, most, 15, 0, api.Frame{Res: api.ResOk}},
	} {
		m := slices.Clone(base)
		m[2], m[15] = x.event, x.park
		want := slices.Clone(m)
		if x.at > 0 {
			want[x.at] = x.has
		}
		x.f.Op, x.want.Op, x.f.Who, x.want.Who = api.OpWait, api.OpWait, 1, 1
		if got, g := wait.Step(c, m, x.f); !slices.Equal(got, want) || g != x.want {
			t.Errorf("%d: %v, %+v", i, got, g)
		}
	}
}

func TestStepLoadsTheEvent(t *testing.T) { // P14.1: step 0: of no epoch and no mask, of an epoch alone, a mask alone, both, and all bits; whatever the registers are
	for _, c := range edges() {
		for _, w := range workers(c) {
			for _, e := range append(words(), edgeWords()...) {
				m := atEvent(c, w, e, e+1)
				f := api.Frame{Op: api.OpWait, Who: w, Val: 7, X: e + 3, Y: e + 9}
				asks(t, c, m, f, m, api.Frame{Op: api.OpWait, Pc: 1, Who: w, Val: 7, X: e, Y: e + 9})
			}
		}
	}
}

func TestStepSeesAnotherEpoch(t *testing.T) { // P14.1: step 1: one more, one less, and each power of 2 off, to either side, with the same mask and with others
	for _, c := range edges() {
		w := c.W - 1
		for _, was := range epochs() {
			for n := range 48 {
				for _, is := range []uint64{was + 1<<n, was - 1<<n} {
					for _, low := range masks() {
						x, e := was*65536+low, is*65536+low
						m := atEvent(c, w, e, 1)
						for _, y := range []uint64{x, e, 7} {
							asks(t, c, m, api.Frame{Op: api.OpWait, Pc: 1, Who: w, Val: 7, X: x, Y: y}, m, over(w, api.ResAbort))
						}
						other := api.Frame{Op: api.OpWait, Pc: 1, Who: w, Val: 7, X: x - low + 0xffff, Y: 7}
						asks(t, c, m, other, m, over(w, api.ResAbort))
					}
				}
			}
		}
	}
}

func TestStepSeesNoMask(t *testing.T) { // P14.1: step 1: an epoch that is X's, with each two masks: Y is loaded, and X stays
	for _, c := range edges() {
		for _, w := range workers(c) {
			for _, high := range epochs() {
				for _, was := range masks() {
					for _, is := range masks() {
						x, e := high*65536+was, high*65536+is
						m := atEvent(c, w, e, 1)
						f := api.Frame{Op: api.OpWait, Pc: 1, Who: w, Val: 7, X: x, Y: x + 9}
						asks(t, c, m, f, m, api.Frame{Op: api.OpWait, Pc: 2, Who: w, Val: 7, X: x, Y: e})
					}
				}
			}
		}
	}
}

func TestStepSetsItsBit(t *testing.T) { // P14.1: step 2, where the event is Y still; each worker's bit, set already and not, in words at the edges of 64 bits; no other cell changes
	for _, c := range edges() {
		for w := range c.W {
			for _, y := range append(words(), edgeWords()...) {
				for _, y := range []uint64{y, withBit(y, w), withBit(y, w) - bit(w)} {
					m := atEvent(c, w, y, y+1)
					want := slices.Clone(m)
					want[eventAt] = withBit(y, w)
					f := api.Frame{Op: api.OpWait, Pc: 2, Who: w, Val: 7, X: y + 5, Y: y}
					asks(t, c, m, f, want, api.Frame{Op: api.OpWait, Pc: 3, Who: w, Val: 7, X: y + 5, Y: y})
				}
			}
		}
	}
}

func TestStepSeesWhetherTheEventHasTurned(t *testing.T) { // P14.1: step 2, where the event is not Y: by each bit, by each power of 2, and by the bit that it would set
	for _, c := range edges() {
		for _, w := range workers(c) {
			for _, y := range edgeWords() {
				f := api.Frame{Op: api.OpWait, Pc: 2, Who: w, Val: 7, X: y + 5, Y: y}
				call := f
				call.Pc = 1
				for n := range 64 {
					for _, e := range []uint64{y ^ 1<<n, y + 1<<n, y - 1<<n, f.X, y ^ 3<<n, most - y} {
						m := atEvent(c, w, e, 1)
						if e != y {
							asks(t, c, m, f, m, call)
						}
					}
				}
			}
		}
	}
}

func TestStepLooksAtItsParkCell(t *testing.T) { // P14.1: step 3: 0 and not, by each power of 2; whatever other park cells and the event are
	for _, c := range edges() {
		for w := range c.W {
			numbers := parks()
			for n := range 64 {
				numbers = append(numbers, 1<<n)
			}
			for _, parked := range numbers {
				f := api.Frame{Op: api.OpWait, Pc: 3, Who: w, Val: 7, X: 5, Y: 6}
				call := api.Frame{Op: api.OpWait, Pc: 4, Who: w, Val: 7, X: 5, Y: parked}
				if parked == 0 {
					call.Pc = 3
				}
				for _, e := range []uint64{0, 5, 6, bit(w), most} {
					m := atEvent(c, w, e, parked)
					asks(t, c, m, f, m, call)
					for other := range c.W { // and where all others' are 0, or none is
						if other != w {
							m[parkAt(c, other)] = 1 - min(parked, 1)
						}
					}
					asks(t, c, m, f, m, call)
				}
			}
		}
	}
}

func TestStepEmptiesItsParkCell(t *testing.T) { // P14.1: step 4: whatever it was; no other cell changes
	for _, c := range edges() {
		for w := range c.W {
			for _, parked := range parks() {
				for _, y := range parks() {
					m := atEvent(c, w, 0x90000+bit(w), parked)
					want := slices.Clone(m)
					want[parkAt(c, w)] = 0
					asks(t, c, m, api.Frame{Op: api.OpWait, Pc: 4, Who: w, Val: 7, X: 5, Y: y}, want, over(w, api.ResOk))
				}
			}
		}
	}
}

func TestStepOfAnyNumbers(t *testing.T) { // P14.1: each value, and cells and registers of any numbers
	for _, c := range edges() {
		for _, w := range workers(c) {
			for pc := range 5 {
				for _, e := range edgeWords() {
					for _, val := range vals() {
						m := atEvent(c, w, e, val)
						for _, x := range []uint64{e, e + val, most - e} {
							for _, y := range []uint64{e, e - val, 0, 5} {
								f := api.Frame{Op: api.OpWait, Pc: pc, Who: w, Val: val, X: x, Y: y}
								want, call := stepped(c, m, f)
								asks(t, c, m, f, want, call)
							}
						}
					}
				}
			}
		}
	}
}

func TestStepChangesOneCellAtMost(t *testing.T) { // P14.1: the event, by step 2, or its own park cell, by step 4
	for _, c := range edges() {
		for w := range c.W {
			for _, e := range edgeWords() {
				e = withBit(e, w) - bit(w)
				for pc := range 5 {
					m := atEvent(c, w, e, 8)
					got, _ := wait.Step(c, m, api.Frame{Op: api.OpWait, Pc: pc, Who: w, Val: 77, X: e, Y: e})
					may := []int{-1, -1, eventAt, -1, parkAt(c, w)}[pc]
					for i := range m {
						if (got[i] != m[i]) != (i == may) {
							t.Fatalf("step %d of worker %d at %+v: cell %d was %d and is %d", pc, w, c, i, m[i], got[i])
						}
					}
				}
			}
		}
	}
}

func TestParked(t *testing.T) { // P14.2: each Op, each Pc and each result, and those that there are none of
	ops, pcs, results := append(otherOps(), api.OpWait), append(noPcs(), 0, 1, 2, 3, 4), append(overs(), api.ResNone)
	for _, op := range ops {
		for _, pc := range pcs {
			for _, res := range results {
				want := op == 5 && pc == 3 && res == 0
				for _, f := range []api.Frame{full(op, pc, 1, res), {Op: op, Pc: pc, Res: res}} {
					if got := wait.Parked(f); got != want {
						t.Fatalf("Parked(%+v) = %v", f, got)
					}
				}
			}
		}
	}
}

func TestParkedOfAnybody(t *testing.T) { // P14.2: nobody asks who it is, nor for its registers
	for _, who := range append(far(), 0, 1, 7, 8, 15, 16) {
		for _, n := range edgeWords() {
			if !wait.Parked(api.Frame{Op: api.OpWait, Pc: 3, Who: who, Val: n, X: n, Y: n}) {
				t.Fatalf("worker %d is not parked, with %d", who, n)
			}
		}
	}
}

// waits asks that Waits answers this.
func waits(t *testing.T, c api.Conf, m api.Mem, w int, want bool) {
	t.Helper()
	if got := wait.Waits(c, m, w); got != want {
		t.Fatalf("Waits(%+v, %v, %d) = %v", c, m, w, got)
	}
}

func TestWaitsByHand(t *testing.T) { // P14.2: written out; there are three workers
	c := api.Conf{W: 3, D: 1, I: 1}
	for i, x := range []struct {
		event          uint64
		zero, one, two bool
	}{
		{0, false, false, false}, {1, true, false, false}, {2, false, true, false}, {4, false, false, true},
		{7, true, true, true}, {5, true, false, true}, {6, false, true, true}, {3, true, true, false},
		{8, false, false, false}, {0xfff8, false, false, false}, {0xfffa, false, true, false},
		{0x70000, false, false, false}, {0x70004, false, false, true}, {most, true, true, true}, {most - 7, false, false, false}, {most - 0xffff, false, false, false},
		{1 << 63, false, false, false}, {1<<63 + 1, true, false, false},
	} {
		m := make(api.Mem, 20)
		m[2] = x.event
		if wait.Waits(c, m, 0) != x.zero || wait.Waits(c, m, 1) != x.one || wait.Waits(c, m, 2) != x.two {
			t.Errorf("%d: %v, %v, %v", i, wait.Waits(c, m, 0), wait.Waits(c, m, 1), wait.Waits(c, m, 2))
		}
	}
}

func TestWaitsOfEachBit(t *testing.T) { // P14.2: set and not, alone and with others; of workers alone, though other bits are set
	for _, c := range edges() {
		for _, e := range append(words(), edgeWords()...) {
			for _, parked := range []uint64{0, 1} {
				m := atEvent(c, 0, e, parked)
				for w := range c.W {
					waits(t, c, m, w, has(e, w))
				}
				for _, w := range noWorkers(c) {
					if w < 0 || w >= c.W {
						waits(t, c, m, w, false)
					}
				}
			}
		}
	}
}

func TestWaitsOfAllMasks(t *testing.T) { // P14.2: of eight workers
	c := api.Conf{W: 8, D: 1, I: 1}
	m := make(api.Mem, size(c))
	for mask := range uint64(1 << 16) {
		m[eventAt] = 0xabcd0000 + mask
		for w := range 8 {
			waits(t, c, m, w, has(mask, w))
		}
	}
}

func TestWaitsAtEachLayout(t *testing.T) { // P14.2: as many cells as it has, one fewer, one more, and none
	all := func(n int) api.Mem { return slices.Repeat(api.Mem{most}, n) }
	for _, c := range layouts() {
		n := size(c)
		for w := range c.W {
			waits(t, c, all(n), w, true)
			for _, m := range []api.Mem{all(n - 1), all(n + 1), all(n)[:n-1], all(2 * n), all(3), all(1), {}, nil} {
				waits(t, c, m, w, false)
			}
		}
		waits(t, c, all(n), c.W, false)
		waits(t, c, all(n), -1, false)
	}
}

func TestWaitsAtNoLayout(t *testing.T) { // P14.2: each limit, one past it, and below 1
	for _, c := range wrong() {
		for _, n := range sizes(c) {
			for _, w := range append(far(), 0, 1, 2, 8, 9, 15, 16) {
				waits(t, c, slices.Repeat(api.Mem{most}, n), w, false)
			}
		}
		waits(t, c, nil, 0, false)
	}
}
