package note_test

import (
	"math"
	"slices"
	"testing"

	"poacher/api"
	"poacher/note"
)

const most = math.MaxUint64

// The event's cell is told anew, as all cells are.
const eventAt = 2

// far are numbers that name nothing; narrower kinds would take some of them for small ones.
func far() []int {
	return []int{
		math.MinInt, math.MinInt + 1, math.MinInt + 2, math.MinInt + 6, math.MinInt + 7, -1 << 62, math.MinInt32, -1 << 32, -1<<32 + 2, -1<<32 + 6, -256, -254, -250, -64, -58, -16, -8, -7, -6, -5, -4, -3, -2, -1,
		64, 65, 256, 257, 262, 263, 1 << 16, math.MaxInt32, 1 << 32, 1<<32 + 1, 1<<32 + 6, 1<<32 + 7, 1 << 62, math.MaxInt - 1, math.MaxInt,
	}
}

func overs() []int { return append(far(), 1, 2, 3, 4, 5, 6, 8) }

// ops are those that wake.
func ops() []int { return []int{api.OpNote, api.OpAll} }

// otherOps are Ops that wake nobody, and Ops that there are none of.
func otherOps() []int { return append(far(), 0, 1, 2, 3, 4, 5, 8, 9, 14, 16) }

func noPcs() []int { return append(far(), 3, 4, 5, 6, 7, 8, 9, 12, 16) }

// anybody are workers, and numbers of workers that there are none of.
func anybody() []int { return append(far(), 0, 1, 2, 7, 8, 9, 14, 15, 16, 17, 31, 32, 48) }

// Cells are told anew, without package lay.
func parkAt(c api.Conf, w int) int { return 6 + 2*c.I + w*(3+c.D) + 2 }

func size(c api.Conf) int { return 6 + 2*c.I + c.W*(3+c.D) }

// A word's parts are told anew, without package word.
func epoch(e uint64) uint64 { return e / 65536 }

func mask(e uint64) uint64 { return e % 65536 }

// behind is a word of the epoch that follows, with that mask.
func behind(e, low uint64) uint64 {
	if epoch(e) == 1<<48-1 {
		return low
	}
	return (epoch(e)+1)*65536 + low
}

// powers are the bits' numbers in a mask.
func powers() [16]uint64 {
	return [16]uint64{1, 2, 4, 8, 16, 32, 64, 128, 256, 512, 1024, 2048, 4096, 8192, 16384, 32768}
}

func has(e uint64, w int) bool { return e/powers()[w]%2 == 1 }

// bitsOf are the bits that are set, the lowest one ahead.
func bitsOf(e uint64) []int {
	var out []int
	for w := range 16 {
		if has(e, w) {
			out = append(out, w)
		}
	}
	return out
}

// layouts are all that may be.
func layouts() []api.Conf {
	var out []api.Conf
	for w := 1; w <= 8; w++ {
		for _, d := range []int{1, 2, 4, 8, 16} {
			for i := 1; i <= 16; i++ {
				for spin := 0; spin <= 4; spin++ {
					out = append(out, api.Conf{W: w, D: d, I: i, Spin: spin})
				}
			}
		}
	}
	return out
}

// edges are layouts at the limits, and some between.
func edges() []api.Conf {
	out := []api.Conf{{W: 2, D: 2, I: 1}, {W: 3, D: 4, I: 5, Spin: 1}, {W: 5, D: 8, I: 7, Spin: 2}}
	for _, w := range []int{1, 8} {
		for _, d := range []int{1, 2, 16} {
			out = append(out, api.Conf{W: w, D: d, I: 1}, api.Conf{W: w, D: d, I: 16, Spin: 4})
		}
	}
	return out
}

// wrong are layouts that may not be: one part of each is wrong, or all.
func wrong() []api.Conf {
	out := []api.Conf{{}, {W: -1, D: -1, I: -1, Spin: -1}, {W: 9, D: 32, I: 17, Spin: 5}}
	part := func(set func(c *api.Conf, n int), beyond ...int) {
		for _, n := range append(beyond, math.MinInt, -256, -2, -1, 256, 1<<32, 1<<32+2, math.MaxInt) {
			c := api.Conf{W: 2, D: 4, I: 3, Spin: 1}
			set(&c, n)
			out = append(out, c)
		}
	}
	part(func(c *api.Conf, n int) { c.W = n }, 0, 9, 10, 16)
	part(func(c *api.Conf, n int) { c.D = n }, 0, 3, 5, 6, 7, 9, 12, 15, 17, 24, 32)
	part(func(c *api.Conf, n int) { c.I = n }, 0, 17, 18, 32)
	part(func(c *api.Conf, n int) { c.Spin = n }, 5, 6, 8)
	return out
}

// sizes are those that a layout which may not be might seem to have, and some more.
func sizes(c api.Conf) []int {
	out := []int{0, 1, 3, 6, size(api.Conf{W: 2, D: 4, I: 3, Spin: 1})}
	if n := size(c); n > 0 && n < 1000 && c.W < 100 && c.D < 100 && c.I < 100 {
		out = append(out, n)
	}
	return out
}

// filled are cells of which no two are the same, and none is 0 or 1.
func filled(n int) api.Mem {
	m := make(api.Mem, n)
	for i := range m {
		m[i] = uint64(i+1) * 0x9e3779b97f4a7c15
	}
	return m
}

// atEvent are filled cells, with that event, and that number in all park cells.
func atEvent(c api.Conf, e, parked uint64) api.Mem {
	m := filled(size(c))
	m[eventAt] = e
	for w := range c.W {
		m[parkAt(c, w)] = parked
	}
	return m
}

// epochs are those at the edges of 48 bits, of 32, of 16, and those that would be taken for a negative number.
func epochs() []uint64 {
	return []uint64{0, 1, 2, 9, 1<<16 - 1, 1 << 16, 1<<32 - 1, 1 << 32, 1<<47 - 1, 1 << 47, 1<<48 - 2, 1<<48 - 1}
}

// masks are none, each bit alone, some, all workers', those of nobody, and all.
func masks() []uint64 {
	out := []uint64{0, 3, 5, 0x55, 0xaa, 0xf0, 0xff, 0xff00, 0x8001, 0x7fff, 0xfffe, 0xffff}
	for _, bit := range powers() {
		out = append(out, bit)
	}
	return out
}

// words are of each of these epochs and masks.
func words() []uint64 {
	var out []uint64
	for _, high := range epochs() {
		for _, low := range masks() {
			out = append(out, high*65536+low)
		}
	}
	return out
}

// edgeWords are those around 0, 2^16, 2^32, 2^48, 2^63 and 2^64.
func edgeWords() []uint64 {
	out := []uint64{0, 1, 2, 3, most, most - 1, most - 2, most - 0xffff, most - 0xff}
	for _, at := range []uint64{1 << 8, 1 << 15, 1 << 16, 1 << 31, 1 << 32, 1 << 47, 1 << 48, 1 << 62, 1 << 63} {
		out = append(out, at-1, at, at+1)
	}
	return out
}

// parks are what may lie in a park cell.
func parks() []uint64 { return []uint64{0, 1, 2, 1 << 32, 1 << 63, most} }

func vals() []uint64 { return []uint64{0, 1, 7, 1 << 32, 1 << 63, most} }

// full are calls of which no field is 0, but for what is asked.
func full(op, pc, who, res int) api.Frame {
	return api.Frame{Op: op, Pc: pc, Who: who, Val: 4, X: 5, Y: 6, Res: res}
}

// over is a call of f's that ended so.
func over(f api.Frame, res int, val uint64) api.Frame {
	return api.Frame{Op: f.Op, Who: f.Who, Val: val, Res: res}
}

// parkedBy is m with a 1 in that worker's park cell; m, if there is no such worker.
func parkedBy(c api.Conf, m api.Mem, w uint64) api.Mem {
	out := slices.Clone(m)
	for i := range c.W {
		if uint64(i) == w {
			out[parkAt(c, i)] = 1
		}
	}
	return out
}

// stepped is told anew, without a map, and without the packages below.
func stepped(c api.Conf, m api.Mem, f api.Frame) (api.Mem, api.Frame) {
	out := slices.Clone(m)
	switch {
	case f.Pc == 0:
		f.Pc, f.X = 1, m[eventAt]
		return out, f
	case f.Pc == 1 && m[eventAt] != f.X:
		f.Pc = 0
		return out, f
	case f.Pc == 1:
		return exchanged(m, f)
	case f.Op == 6:
		return parkedBy(c, m, f.Y), over(f, 1, f.Y)
	}
	set := bitsOf(f.Y)
	if len(set) == 0 {
		return out, over(f, 1, mask(f.X))
	}
	f.Y = mask(f.Y) - powers()[set[0]]
	if f.Y == 0 {
		f = over(f, 1, mask(f.X))
	}
	return parkedBy(c, m, uint64(set[0])), f
}

// exchanged is what step 1 comes to, where the event is X still.
func exchanged(m api.Mem, f api.Frame) (api.Mem, api.Frame) {
	out := slices.Clone(m)
	set := bitsOf(f.X)
	if len(set) == 0 {
		out[eventAt] = behind(f.X, 0)
		return out, over(f, 3, 0)
	}
	f.Pc = 2
	if f.Op == 6 {
		f.Y = uint64(set[0])
		out[eventAt] = behind(f.X, mask(f.X)-powers()[set[0]])
		return out, f
	}
	f.Y = mask(f.X)
	out[eventAt] = behind(f.X, 0)
	return out, f
}

// asks asks that Step answers these.
func asks(t *testing.T, c api.Conf, m api.Mem, f api.Frame, want api.Mem, call api.Frame) {
	t.Helper()
	got, g := note.Step(c, m, f)
	if !slices.Equal(got, want) || g != call {
		t.Fatalf("Step(%+v, %v, %+v) = %v, %+v, want %v, %+v", c, m, f, got, g, want, call)
	}
}

// still asks that f does not go on, and that a step leaves all as it was.
func still(t *testing.T, c api.Conf, m api.Mem, f api.Frame) {
	t.Helper()
	if note.Goes(c, m, f) {
		t.Fatalf("Goes(%+v, %v, %+v)", c, m, f)
	}
	asks(t, c, m, f, m, f)
}

// goes asks that f goes on: what is stepped is told anew.
func goes(t *testing.T, c api.Conf, m api.Mem, f api.Frame) {
	t.Helper()
	if !note.Goes(c, m, f) {
		t.Fatalf("Goes(%+v, %v, %+v) = false", c, m, f)
	}
	want, call := stepped(c, m, f)
	if call == f {
		t.Fatalf("%+v would be handed back, also if it went on", f)
	}
	asks(t, c, m, f, want, call)
}

func TestAtEachLayout(t *testing.T) { // P15.1, P15.2: as many cells as it has, one fewer, one more, and none
	for _, c := range layouts() {
		n := size(c)
		for _, op := range ops() {
			for pc := range 3 {
				f := full(op, pc, c.W-1, api.ResNone)
				goes(t, c, filled(n), f)
				for _, m := range []api.Mem{filled(n - 1), filled(n + 1), filled(n)[:n-1], filled(2 * n), filled(1), {}, nil} {
					still(t, c, m, f)
				}
			}
		}
	}
}

func TestAtNoLayout(t *testing.T) { // P15.1, P15.2: each limit, one past it, and below 1; also with no cells, of which such a layout has as many
	for _, c := range wrong() {
		for _, op := range ops() {
			for _, n := range sizes(c) {
				for pc := range 3 {
					for _, who := range []int{0, 1, 8, -1} {
						still(t, c, filled(n), full(op, pc, who, api.ResNone))
						still(t, c, make(api.Mem, n), api.Frame{Op: op, Pc: pc, Who: who})
					}
				}
			}
			still(t, c, nil, api.Frame{Op: op})
		}
	}
}

func TestOfAnybody(t *testing.T) { // P15.1, P15.2: nobody asks who it is, nor whether there is such a worker
	for _, c := range edges() {
		for _, op := range ops() {
			for pc := range 3 {
				for _, who := range append(anybody(), c.W-1, c.W) {
					goes(t, c, filled(size(c)), full(op, pc, who, api.ResNone))
					goes(t, c, make(api.Mem, size(c)), api.Frame{Op: op, Pc: pc, Who: who, X: 1, Y: 1})
				}
			}
		}
	}
}

func TestOfOneThatIsOver(t *testing.T) { // P15.1, P15.2: by each result, and by results that there are none of
	for _, c := range edges() {
		m := filled(size(c))
		for _, res := range overs() {
			for _, op := range ops() {
				for pc := range 3 {
					still(t, c, m, full(op, pc, 0, res))
					still(t, c, m, api.Frame{Op: op, Pc: pc, Res: res})
				}
			}
		}
	}
}

func TestOfOtherOps(t *testing.T) { // P15.1, P15.2: who wakes one, or all, and no other one
	for _, c := range edges() {
		m := filled(size(c))
		for _, op := range otherOps() {
			for pc := range 3 {
				still(t, c, m, full(op, pc, 0, api.ResNone))
				still(t, c, m, api.Frame{Op: op, Pc: pc})
			}
		}
	}
}

func TestOfNoPc(t *testing.T) { // P15.1, P15.2: -1, three, and those that lie farther off
	for _, c := range edges() {
		m := filled(size(c))
		for _, pc := range noPcs() {
			for _, op := range ops() {
				still(t, c, m, full(op, pc, 0, api.ResNone))
				still(t, c, m, api.Frame{Op: op, Pc: pc})
			}
		}
	}
}

func TestWithMorePartsWrong(t *testing.T) { // P15.1, P15.2: each part of what goes on right or wrong, in all ways
	for _, layout := range edges() {
		for parts := range 1 << 5 {
			bad := func(part int) bool { return parts>>part&1 == 1 }
			for _, op := range ops() {
				c, f, n := layout, full(op, 2, layout.W, api.ResNone), size(layout)
				if bad(0) {
					c.D = 3
				}
				if bad(1) {
					n++
				}
				if bad(2) {
					f.Res = api.ResAbort
				}
				if bad(3) {
					f.Op = api.OpWait
				}
				if bad(4) {
					f.Pc = 3
				}
				if parts == 0 {
					goes(t, c, filled(n), f)
				} else {
					still(t, c, filled(n), f)
				}
			}
		}
	}
}

// hand is a step that is written out; of 18 cells, 2 is the event, 10 and 15 are the park cells, which are 9 ahead of it.
type hand struct {
	f     api.Frame
	event uint64
	at    int
	has   uint64
	want  api.Frame
}

func (x hand) asked(t *testing.T, i, op int) {
	t.Helper()
	c := api.Conf{W: 2, D: 2, I: 1}
	m := filled(18)
	m[2], m[10], m[15] = x.event, 9, 9
	want := slices.Clone(m)
	if x.at > 0 {
		want[x.at] = x.has
	}
	x.f.Op, x.want.Op, x.f.Who, x.want.Who = op, op, 5, 5
	if got, g := note.Step(c, m, x.f); !slices.Equal(got, want) || g != x.want {
		t.Errorf("%d: %v, %+v", i, got, g)
	}
}

func TestStepByHand(t *testing.T) { // P15.2: what is alike for one and for all
	for i, x := range []hand{
		{api.Frame{Pc: 0, Val: 7, X: 3, Y: 4}, 0, 0, 0, api.Frame{Pc: 1, Val: 7, X: 0, Y: 4}},
		{api.Frame{Pc: 0, Val: 7, X: 3, Y: 4}, 0x90000, 0, 0, api.Frame{Pc: 1, Val: 7, X: 0x90000, Y: 4}},
		{api.Frame{Pc: 0, Val: 7, X: 3, Y: 4}, 5, 0, 0, api.Frame{Pc: 1, Val: 7, X: 5, Y: 4}},
		{api.Frame{Pc: 0, Val: 7, X: 3, Y: 4}, 0x90005, 0, 0, api.Frame{Pc: 1, Val: 7, X: 0x90005, Y: 4}},
		{api.Frame{Pc: 0, Val: 7, X: 3, Y: 4}, most, 0, 0, api.Frame{Pc: 1, Val: 7, X: most, Y: 4}},

		{api.Frame{Pc: 1, Val: 7, X: 0x90005, Y: 4}, 0xa0005, 0, 0, api.Frame{Pc: 0, Val: 7, X: 0x90005, Y: 4}}, // another epoch
		{api.Frame{Pc: 1, Val: 7, X: 0x90005, Y: 4}, 0x90000, 0, 0, api.Frame{Pc: 0, Val: 7, X: 0x90005, Y: 4}}, // no mask any more
		{api.Frame{Pc: 1, Val: 7, X: 0x90005, Y: 4}, 0x90004, 0, 0, api.Frame{Pc: 0, Val: 7, X: 0x90005, Y: 4}},
		{api.Frame{Pc: 1, Val: 7, X: 0x90005, Y: 4}, 0x90007, 0, 0, api.Frame{Pc: 0, Val: 7, X: 0x90005, Y: 4}},
		{api.Frame{Pc: 1, Val: 7, X: 0x90000, Y: 4}, 0x90001, 0, 0, api.Frame{Pc: 0, Val: 7, X: 0x90000, Y: 4}},             // it is not empty, though X was
		{api.Frame{Pc: 1, Val: 7, X: 0x90005, Y: 0x90007}, 0x90007, 0, 0, api.Frame{Pc: 0, Val: 7, X: 0x90005, Y: 0x90007}}, // X is exchanged, not Y

		{api.Frame{Pc: 1, Val: 7, X: 0x90000, Y: 4}, 0x90000, 2, 0xa0000, api.Frame{Res: api.ResEmpty}},
		{api.Frame{Pc: 1, Val: 0, X: 0, Y: 4}, 0, 2, 0x10000, api.Frame{Res: api.ResEmpty}},
		{api.Frame{Pc: 1, Val: 7, X: most - 0xffff, Y: 4}, most - 0xffff, 2, 0, api.Frame{Res: api.ResEmpty}},
		{api.Frame{Pc: 1, Val: 7, X: 1<<63 - 0x10000, Y: 4}, 1<<63 - 0x10000, 2, 1 << 63, api.Frame{Res: api.ResEmpty}},
	} {
		for _, op := range ops() {
			x.asked(t, i, op)
		}
	}
}

func TestStepOfOneByHand(t *testing.T) { // P15.2: OpNote alone
	for i, x := range []hand{
		{api.Frame{Pc: 1, Val: 7, X: 0x90001, Y: 4}, 0x90001, 2, 0xa0000, api.Frame{Pc: 2, Val: 7, X: 0x90001, Y: 0}},
		{api.Frame{Pc: 1, Val: 7, X: 0x90003, Y: 4}, 0x90003, 2, 0xa0002, api.Frame{Pc: 2, Val: 7, X: 0x90003, Y: 0}},
		{api.Frame{Pc: 1, Val: 7, X: 0x90006, Y: 4}, 0x90006, 2, 0xa0004, api.Frame{Pc: 2, Val: 7, X: 0x90006, Y: 1}},
		{api.Frame{Pc: 1, Val: 7, X: 0x98000, Y: 4}, 0x98000, 2, 0xa0000, api.Frame{Pc: 2, Val: 7, X: 0x98000, Y: 15}}, // a bit of nobody
		{api.Frame{Pc: 1, Val: 7, X: most, Y: 4}, most, 2, 0xfffe, api.Frame{Pc: 2, Val: 7, X: most, Y: 0}},

		{api.Frame{Pc: 2, Val: 7, X: 0x90006, Y: 0}, 0xa0004, 10, 1, api.Frame{Res: api.ResOk, Val: 0}}, // X is not asked any more
		{api.Frame{Pc: 2, Val: 7, X: 0x90006, Y: 1}, 0xa0004, 15, 1, api.Frame{Res: api.ResOk, Val: 1}},
		{api.Frame{Pc: 2, Val: 7, X: 0, Y: 1}, 0, 15, 1, api.Frame{Res: api.ResOk, Val: 1}},
		{api.Frame{Pc: 2, Val: 7, X: 0x90006, Y: 2}, 0xa0004, 0, 0, api.Frame{Res: api.ResOk, Val: 2}}, // there is no worker 2
		{api.Frame{Pc: 2, Val: 7, X: 0x90006, Y: 16}, 0xa0004, 0, 0, api.Frame{Res: api.ResOk, Val: 16}},
		{api.Frame{Pc: 2, Val: 7, X: 0x90006, Y: 1 << 32}, 0xa0004, 0, 0, api.Frame{Res: api.ResOk, Val: 1 << 32}},
		{api.Frame{Pc: 2, Val: 7, X: 0x90006, Y: most}, 0xa0004, 0, 0, api.Frame{Res: api.ResOk, Val: most}},
	} {
		x.asked(t, i, api.OpNote)
	}
}

func TestStepOfAllByHand(t *testing.T) { // P15.2: OpAll alone
	for i, x := range []hand{
		{api.Frame{Pc: 1, Val: 7, X: 0x90001, Y: 4}, 0x90001, 2, 0xa0000, api.Frame{Pc: 2, Val: 7, X: 0x90001, Y: 1}},
		{api.Frame{Pc: 1, Val: 7, X: 0x90006, Y: 4}, 0x90006, 2, 0xa0000, api.Frame{Pc: 2, Val: 7, X: 0x90006, Y: 6}},
		{api.Frame{Pc: 1, Val: 7, X: 0x98000, Y: 4}, 0x98000, 2, 0xa0000, api.Frame{Pc: 2, Val: 7, X: 0x98000, Y: 0x8000}},
		{api.Frame{Pc: 1, Val: 7, X: most, Y: 4}, most, 2, 0, api.Frame{Pc: 2, Val: 7, X: most, Y: 0xffff}},

		{api.Frame{Pc: 2, Val: 7, X: 0x90003, Y: 3}, 0xa0000, 10, 1, api.Frame{Pc: 2, Val: 7, X: 0x90003, Y: 2}},
		{api.Frame{Pc: 2, Val: 7, X: 0x90003, Y: 2}, 0xa0000, 15, 1, api.Frame{Res: api.ResOk, Val: 3}},
		{api.Frame{Pc: 2, Val: 7, X: 0x90003, Y: 1}, 0xa0000, 10, 1, api.Frame{Res: api.ResOk, Val: 3}},
		{api.Frame{Pc: 2, Val: 7, X: 0x90003, Y: 6}, 0xa0000, 15, 1, api.Frame{Pc: 2, Val: 7, X: 0x90003, Y: 4}}, // one of nobody is left
		{api.Frame{Pc: 2, Val: 7, X: 0x90006, Y: 4}, 0xa0000, 0, 0, api.Frame{Res: api.ResOk, Val: 6}},           // there is no worker 2
		{api.Frame{Pc: 2, Val: 7, X: 0x90006, Y: 0xc000}, 0xa0000, 0, 0, api.Frame{Pc: 2, Val: 7, X: 0x90006, Y: 0x8000}},
		{api.Frame{Pc: 2, Val: 7, X: 0x9fffe, Y: 0x8000}, 0xa0000, 0, 0, api.Frame{Res: api.ResOk, Val: 0xfffe}},
		{api.Frame{Pc: 2, Val: 7, X: 0x90003, Y: 0}, 0xa0000, 0, 0, api.Frame{Res: api.ResOk, Val: 3}},
		{api.Frame{Pc: 2, Val: 7, X: 0x90000, Y: 2}, 0xa0000, 15, 1, api.Frame{Res: api.ResOk, Val: 0}},
		{api.Frame{Pc: 2, Val: 7, X: 0x90003, Y: 0x10000}, 0xa0000, 0, 0, api.Frame{Res: api.ResOk, Val: 3}}, // bits above the sixteen are none
		{api.Frame{Pc: 2, Val: 7, X: 0x90003, Y: 0x70003}, 0xa0000, 10, 1, api.Frame{Pc: 2, Val: 7, X: 0x90003, Y: 2}},
		{api.Frame{Pc: 2, Val: 7, X: 0x90003, Y: 1<<63 + 2}, 0xa0000, 15, 1, api.Frame{Res: api.ResOk, Val: 3}},
		{api.Frame{Pc: 2, Val: 7, X: most, Y: most}, 0xa0000, 10, 1, api.Frame{Pc: 2, Val: 7, X: most, Y: 0xfffe}},
	} {
		x.asked(t, i, api.OpAll)
	}
}

func TestStepLoadsTheEvent(t *testing.T) { // P15.2: step 0: of no epoch and no mask, of an epoch alone, a mask alone, both, and all bits; whatever the registers are
	for _, c := range edges() {
		for _, op := range ops() {
			for _, e := range append(words(), edgeWords()...) {
				m := atEvent(c, e, e+1)
				f := api.Frame{Op: op, Who: 3, Val: 7, X: e + 3, Y: e + 9}
				asks(t, c, m, f, m, api.Frame{Op: op, Pc: 1, Who: 3, Val: 7, X: e, Y: e + 9})
			}
		}
	}
}

func TestStepSeesThatTheEventHasTurned(t *testing.T) { // P15.2: step 1, where the event is not X any more: by each bit, by each power of 2, by the word that it would lay; no cell changes
	for _, c := range edges() {
		for _, op := range ops() {
			for _, x := range append(words(), edgeWords()...) {
				f := api.Frame{Op: op, Pc: 1, Who: 3, Val: 7, X: x, Y: x + 5}
				call := f
				call.Pc = 0
				others := []uint64{f.Y, most - x, behind(x, mask(x)), behind(x, 0), x - mask(x)}
				for n := range 64 {
					others = append(others, x^1<<n, x+1<<n, x-1<<n)
				}
				for _, e := range others {
					m := atEvent(c, e, 0)
					if e != x {
						asks(t, c, m, f, m, call)
					}
				}
			}
		}
	}
}

func TestStepExchangesTheEvent(t *testing.T) { // P15.2: step 1: of no mask, each bit alone, and with others, at the edges of 48 bits; no other cell changes
	for _, c := range edges() {
		for _, e := range append(words(), edgeWords()...) {
			for _, parked := range []uint64{0, 1} {
				m := atEvent(c, e, parked)
				want := slices.Clone(m)
				want[eventAt] = behind(e, 0)
				one := api.Frame{Op: api.OpNote, Pc: 1, Who: 3, Val: 7, X: e, Y: e + 5}
				all := api.Frame{Op: api.OpAll, Pc: 1, Who: 3, Val: 7, X: e, Y: e + 5}
				if mask(e) == 0 {
					asks(t, c, m, one, want, over(one, api.ResEmpty, 0))
					asks(t, c, m, all, want, over(all, api.ResEmpty, 0))
					continue
				}
				asks(t, c, m, all, want, api.Frame{Op: api.OpAll, Pc: 2, Who: 3, Val: 7, X: e, Y: mask(e)})
				low := bitsOf(e)[0]
				want[eventAt] += mask(e) - powers()[low]
				asks(t, c, m, one, want, api.Frame{Op: api.OpNote, Pc: 2, Who: 3, Val: 7, X: e, Y: uint64(low)})
			}
		}
	}
}

func TestStepWakesOne(t *testing.T) { // P15.2: step 2 of OpNote: each worker, as many as there are, 15, 16, and the largest number; a park cell of 0, 1 and other numbers
	for _, c := range edges() {
		numbers := []uint64{uint64(c.W), uint64(c.W) + 1, 8, 14, 15, 16, 17, 255, 256, 1 << 16, 1 << 31, 1 << 32, 1<<32 + 1, 1 << 62, 1<<63 - 1, 1 << 63, 1<<63 + 1, most - 1, most}
		for w := range uint64(8) {
			numbers = append(numbers, w, 256+w, 65536+w, 1<<32+w, 1<<63+w, most-w)
		}
		for _, y := range numbers {
			for _, parked := range parks() {
				for _, x := range []uint64{0, 0x90003, most} {
					m := atEvent(c, 0xa0005, parked)
					f := api.Frame{Op: api.OpNote, Pc: 2, Who: 3, Val: 7, X: x, Y: y}
					asks(t, c, m, f, parkedBy(c, m, y), over(f, api.ResOk, y))
				}
			}
		}
	}
}

func TestStepWakesTheNext(t *testing.T) { // P15.2: step 2 of OpAll: no bit, one, several, of nobody, and above the sixteen; X of another mask
	for _, c := range edges() {
		for _, low := range masks() {
			for _, high := range epochs() {
				for _, x := range []uint64{0, 0x90000, 0x90003, 0x9ffff, low, most - low, most} {
					for _, parked := range []uint64{0, 1, most} {
						m := atEvent(c, 0xa0005, parked)
						f := api.Frame{Op: api.OpAll, Pc: 2, Who: 3, Val: 7, X: x, Y: high*65536 + low}
						set := bitsOf(low)
						if len(set) == 0 {
							asks(t, c, m, f, m, over(f, api.ResOk, mask(x)))
							continue
						}
						call := api.Frame{Op: api.OpAll, Pc: 2, Who: 3, Val: 7, X: x, Y: low - powers()[set[0]]}
						if len(set) == 1 {
							call = over(f, api.ResOk, mask(x))
						}
						asks(t, c, m, f, parkedBy(c, m, uint64(set[0])), call)
					}
				}
			}
		}
	}
}

func TestStepOfAllMasks(t *testing.T) { // P15.2: of eight workers, each mask, at step 1 and at step 2
	c := api.Conf{W: 8, D: 1, I: 1}
	m := make(api.Mem, size(c))
	for low := range uint64(1 << 16) {
		m[eventAt] = 0xabcd0000 + low
		for _, op := range ops() {
			goes(t, c, m, api.Frame{Op: op, Pc: 1, X: m[eventAt]})
		}
		goes(t, c, m, api.Frame{Op: api.OpAll, Pc: 2, X: 0xffff - low, Y: low})
	}
}

func TestStepOfAnyNumbers(t *testing.T) { // P15.2: each value, and cells and registers of any numbers
	for _, c := range edges() {
		for _, op := range ops() {
			for pc := range 3 {
				for _, e := range edgeWords() {
					for _, val := range vals() {
						m := atEvent(c, e, val)
						for _, x := range []uint64{e, e + val, most - e} {
							for _, y := range []uint64{e, e - val, 0, 5} {
								goes(t, c, m, api.Frame{Op: op, Pc: pc, Who: 9, Val: val, X: x, Y: y})
							}
						}
					}
				}
			}
		}
	}
}

func TestStepChangesOneCellAtMost(t *testing.T) { // P15.2: the event, by step 1, or one worker's park cell, by step 2
	for _, c := range edges() {
		for w := range c.W {
			for _, e := range edgeWords() {
				e -= mask(e)
				e += powers()[w] + powers()[15]
				for _, op := range ops() {
					for pc := range 3 {
						y := e
						if op == api.OpNote {
							y = uint64(w)
						}
						m := atEvent(c, e, 8)
						got, _ := note.Step(c, m, api.Frame{Op: op, Pc: pc, Who: 9, Val: 77, X: e, Y: y})
						may := []int{-1, eventAt, parkAt(c, w)}[pc]
						for i := range m {
							if (got[i] != m[i]) != (i == may) {
								t.Fatalf("step %d of Op %d at %+v: cell %d was %d and is %d", pc, op, c, i, m[i], got[i])
							}
						}
					}
				}
			}
		}
	}
}

// owes asks that Owes answers this.
func owes(t *testing.T, f api.Frame, w int, want bool) {
	t.Helper()
	if got := note.Owes(f, w); got != want {
		t.Fatalf("Owes(%+v, %d) = %v", f, w, got)
	}
}

func TestOwesByHand(t *testing.T) { // P15.3: written out: of a call that has such a Y, whom it owes a wake, of 0 to 3 and 15
	for i, x := range []struct {
		op, pc int
		y      uint64
		res    int
		want   [5]bool
	}{
		{api.OpNote, 2, 0, 0, [5]bool{true, false, false, false, false}},
		{api.OpNote, 2, 1, 0, [5]bool{false, true, false, false, false}},
		{api.OpNote, 2, 2, 0, [5]bool{false, false, true, false, false}}, // the number, not bits
		{api.OpNote, 2, 3, 0, [5]bool{false, false, false, true, false}},
		{api.OpNote, 2, 15, 0, [5]bool{false, false, false, false, true}},
		{api.OpNote, 2, 16, 0, [5]bool{}},
		{api.OpNote, 2, 1<<32 + 1, 0, [5]bool{}},
		{api.OpNote, 2, most, 0, [5]bool{}},
		{api.OpAll, 2, 0, 0, [5]bool{}},
		{api.OpAll, 2, 1, 0, [5]bool{true, false, false, false, false}},
		{api.OpAll, 2, 2, 0, [5]bool{false, true, false, false, false}},
		{api.OpAll, 2, 3, 0, [5]bool{true, true, false, false, false}},
		{api.OpAll, 2, 10, 0, [5]bool{false, true, false, true, false}},
		{api.OpAll, 2, 0x8000, 0, [5]bool{false, false, false, false, true}},
		{api.OpAll, 2, 0x10000, 0, [5]bool{}},
		{api.OpAll, 2, 0x30002, 0, [5]bool{false, true, false, false, false}},
		{api.OpAll, 2, most, 0, [5]bool{true, true, true, true, true}},
		{api.OpAll, 2, most, 1, [5]bool{}},
		{api.OpNote, 2, 1, 1, [5]bool{}},
		{api.OpAll, 1, most, 0, [5]bool{}}, // its exchange is still to come
		{api.OpNote, 1, 1, 0, [5]bool{}},
		{api.OpAll, 0, most, 0, [5]bool{}},
		{api.OpWait, 2, 1, 0, [5]bool{}},
		{api.OpWait, 2, most, 0, [5]bool{}},
	} {
		f := api.Frame{Op: x.op, Pc: x.pc, Y: x.y, Res: x.res}
		for n, w := range []int{0, 1, 2, 3, 15} {
			if note.Owes(f, w) != x.want[n] {
				t.Errorf("%d: worker %d", i, w)
			}
		}
	}
}

func TestOwesOfEachKind(t *testing.T) { // P15.3: each Op, each Pc and each result, and those that there are none of
	for _, op := range append(otherOps(), api.OpNote, api.OpAll) {
		for _, pc := range append(noPcs(), 0, 1, 2) {
			for _, res := range append(overs(), api.ResNone) {
				for w := range 3 {
					wakes := pc == 2 && res == 0
					owes(t, api.Frame{Op: op, Pc: pc, Y: 1, Res: res}, w, wakes && (op == 6 && w == 1 || op == 7 && w == 0))
					owes(t, api.Frame{Op: op, Pc: pc, Who: 1, Val: 1, X: 1, Y: 6, Res: res}, w, wakes && op == 7 && w > 0)
				}
			}
		}
	}
}

func TestOwesEachWorker(t *testing.T) { // P15.3: each number and each mask, each worker from 0 to 15, and none else; nobody asks who it is, nor for X and Val
	for _, who := range []int{0, 1, 15, 16, -1, math.MinInt, math.MaxInt} {
		for _, other := range []uint64{0, 1, most} {
			for _, y := range append(words(), edgeWords()...) {
				for w := range 16 {
					owes(t, api.Frame{Op: api.OpAll, Pc: 2, Who: who, Val: other, X: other, Y: y}, w, has(y, w))
					owes(t, api.Frame{Op: api.OpNote, Pc: 2, Who: who, Val: other, X: other, Y: y}, w, y == uint64(w))
				}
			}
		}
	}
}

func TestOwesOfNoWorker(t *testing.T) { // P15.3: below 0, and from 16 on, also where Y is that number
	for _, w := range append(far(), 16, 17, 31, 32, 48, 63) {
		numbers := append(edgeWords(), uint64(w), uint64(w)%65536, uint64(w)%256, uint64(w)%16, 15, 16)
		for _, y := range numbers {
			for _, op := range ops() {
				owes(t, api.Frame{Op: op, Pc: 2, Y: y}, w, false)
				owes(t, full(op, 2, w, 0), w, false)
			}
		}
	}
}

func TestOwesOfAllMasks(t *testing.T) { // P15.3: by OpAll
	for low := range uint64(1 << 16) {
		for w := range 16 {
			owes(t, api.Frame{Op: api.OpAll, Pc: 2, Y: 0xabcd0000 + low}, w, has(low, w))
		}
	}
}
