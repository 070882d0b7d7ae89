package deq_test

import (
	"math"
	"slices"
	"testing"

	"poacher/api"
	"poacher/deq"
)

const most = math.MaxUint64

// Head and tail are told anew, as all cells are.
const headAt, tailAt = 4, 5

// far are numbers that name nothing; narrower kinds would take some of them for small ones.
func far() []int {
	return []int{
		math.MinInt, math.MinInt + 1, math.MinInt + 3, math.MinInt + 4, -1 << 62, math.MinInt32, -1 << 32, -1<<32 + 3, -256, -253, -16, -8, -5, -4, -3, -2, -1,
		256, 257, 259, 260, 1 << 16, math.MaxInt32, 1 << 32, 1<<32 + 1, 1<<32 + 3, 1<<32 + 4, 1 << 62, math.MaxInt - 1, math.MaxInt,
	}
}

func overs() []int { return append(far(), 1, 2, 3, 4, 5, 6, 8) }

// otherOps are Ops that take nothing out, OpEnq too, and Ops that there are none of.
func otherOps() []int { return append(far(), 0, 1, 2, 3, 5, 6, 7, 8, 9, 11, 16) }

func noPcs() []int { return append(far(), 5, 6, 7, 8, 9, 12, 16) }

// Cells are told anew, without package lay.
func seqAt(c api.Conf, x uint64) int { return 6 + int(x%uint64(c.I)) }

func valAt(c api.Conf, x uint64) int { return 6 + c.I + int(x%uint64(c.I)) }

func size(c api.Conf) int { return 6 + 2*c.I + c.W*(3+c.D) }

// free is the sequence of a slot that is free for place x; 1 more, if it has that number, and 2 more, if it is free for the round behind it.
func free(c api.Conf, x uint64) uint64 {
	round := x / uint64(c.I)
	return round + round
}

// layouts are all that may be.
func layouts() []api.Conf {
	var out []api.Conf
	for w := 1; w <= 8; w++ {
		for _, d := range []int{1, 2, 4, 8, 16} {
			for i := 1; i <= 16; i++ {
				for spin := 0; spin <= 4; spin++ {
					out = append(out, api.Conf{W: w, D: d, I: i, Spin: spin})
				}
			}
		}
	}
	return out
}

// rooms are layouts with injectors of each size.
func rooms() []api.Conf {
	var out []api.Conf
	for i := 1; i <= 16; i++ {
		out = append(out, api.Conf{W: 1 + i%3, D: 1 << (i % 3), I: i, Spin: i % 5})
	}
	return out
}

// edges are layouts at the limits, and some between.
func edges() []api.Conf {
	out := []api.Conf{{W: 2, D: 2, I: 2}, {W: 3, D: 4, I: 5, Spin: 1}, {W: 5, D: 8, I: 7, Spin: 2}}
	for _, w := range []int{1, 8} {
		for _, d := range []int{1, 16} {
			out = append(out, api.Conf{W: w, D: d, I: 1}, api.Conf{W: w, D: d, I: 3}, api.Conf{W: w, D: d, I: 16, Spin: 4})
		}
	}
	return out
}

// wrong are layouts that may not be: one part of each is wrong, or all.
func wrong() []api.Conf {
	out := []api.Conf{{}, {W: -1, D: -1, I: -1, Spin: -1}, {W: 9, D: 32, I: 17, Spin: 5}}
	part := func(set func(c *api.Conf, n int), beyond ...int) {
		for _, n := range append(beyond, math.MinInt, -256, -2, -1, 256, 1<<32, 1<<32+2, math.MaxInt) {
			c := api.Conf{W: 2, D: 4, I: 3, Spin: 1}
			set(&c, n)
			out = append(out, c)
		}
	}
	part(func(c *api.Conf, n int) { c.W = n }, 0, 9, 10, 16)
	part(func(c *api.Conf, n int) { c.D = n }, 0, 3, 5, 6, 7, 9, 12, 15, 17, 24, 32)
	part(func(c *api.Conf, n int) { c.I = n }, 0, 17, 18, 32)
	part(func(c *api.Conf, n int) { c.Spin = n }, 5, 6, 8)
	return out
}

// filled are cells of which no two are the same, and none is 0.
func filled(n int) api.Mem {
	m := make(api.Mem, n)
	for i := range m {
		m[i] = uint64(i+1) * 0x9e3779b97f4a7c15
	}
	return m
}

// atPlace are filled cells, with that head, and that sequence of place x.
func atPlace(c api.Conf, x, seq, head uint64) api.Mem {
	m := filled(size(c))
	m[seqAt(c, x)], m[headAt] = seq, head
	return m
}

// sizes are those that a layout which may not be might seem to have, and some more.
func sizes(c api.Conf) []int {
	out := []int{0, 1, 6, size(api.Conf{W: 2, D: 4, I: 3, Spin: 1})}
	if n := size(c); n > 0 && n < 1000 && c.W < 100 && c.D < 100 && c.I < 100 {
		out = append(out, n)
	}
	return out
}

// places are those of the first rounds, and those around 2^32, 2^63 and 2^64.
func places(c api.Conf) []uint64 {
	i := uint64(c.I)
	out := []uint64{0, i - 1, i, i + 1, 2*i - 1, 2 * i, 5 * i, most - i, most - i - 1}
	for n := range uint64(5) {
		out = append(out, n, 1<<32-2+n, 1<<63-2+n, most-n)
	}
	return append(out, 1<<63-i-1, 1<<63-i, 1<<63+i-1, 1<<63+i)
}

func vals() []uint64 { return []uint64{0, 1, 7, 1 << 32, 1 << 63, most} }

// full are calls of which no field is 0, but for what is asked.
func full(op, pc, res int) api.Frame {
	return api.Frame{Op: op, Pc: pc, Who: 2, Val: 4, X: 5, Y: 6, Res: res}
}

// stepped is told anew, without the packages below.
func stepped(c api.Conf, m api.Mem, f api.Frame) (api.Mem, api.Frame) {
	out := slices.Clone(m)
	over := func(res int, val uint64) api.Frame { return api.Frame{Op: f.Op, Who: f.Who, Val: val, Res: res} }
	switch f.Pc {
	case 0:
		f.Pc, f.X = 1, m[headAt]
	case 1:
		f.Y = m[seqAt(c, f.X)]
		if behind := f.Y - free(c, f.X) - 1; behind == 0 {
			f.Pc = 2
		} else if behind >= 1<<63 {
			f = over(3, 0)
		} else {
			f.Pc = 0
		}
	case 2:
		f.Pc = 0
		if m[headAt] == f.X {
			f.Pc, out[headAt] = 3, f.X+1
		}
	case 3:
		f.Pc, f.Val = 4, m[valAt(c, f.X)]
	case 4:
		out[seqAt(c, f.X)] = free(c, f.X) + 2
		f = over(1, f.Val)
	}
	return out, f
}

// asks asks that Step answers these.
func asks(t *testing.T, c api.Conf, m api.Mem, f api.Frame, want api.Mem, call api.Frame) {
	t.Helper()
	got, g := deq.Step(c, m, f)
	if !slices.Equal(got, want) || g != call {
		t.Fatalf("Step(%+v, %v, %+v) = %v, %+v, want %v, %+v", c, m, f, got, g, want, call)
	}
}

// still asks that a step leaves all as it was.
func still(t *testing.T, c api.Conf, m api.Mem, f api.Frame) {
	t.Helper()
	asks(t, c, m, f, m, f)
}

// goes asks that f goes on: what is stepped is told anew.
func goes(t *testing.T, c api.Conf, m api.Mem, f api.Frame) {
	t.Helper()
	want, call := stepped(c, m, f)
	if call == f {
		t.Fatalf("%+v would be handed back, also if it went on", f)
	}
	asks(t, c, m, f, want, call)
}

func TestStepAtEachLayout(t *testing.T) { // P12.1: as many cells as it has, one fewer, one more, and none
	for _, c := range layouts() {
		n := size(c)
		for pc := range 5 {
			f := full(api.OpDeq, pc, api.ResNone)
			goes(t, c, filled(n), f)
			for _, m := range []api.Mem{filled(n - 1), filled(n + 1), filled(n)[:n-1], filled(2 * n), filled(1), {}, nil} {
				still(t, c, m, f)
			}
		}
	}
}

func TestStepAtNoLayout(t *testing.T) { // P12.1: each limit, one past it, and below 1; also with no cells, of which such a layout has as many
	for _, c := range wrong() {
		for _, n := range sizes(c) {
			for pc := range 5 {
				still(t, c, filled(n), full(api.OpDeq, pc, api.ResNone))
				still(t, c, filled(n), api.Frame{Op: api.OpDeq, Pc: pc})
			}
		}
		still(t, c, nil, api.Frame{Op: api.OpDeq})
	}
}

func TestStepOfAnybody(t *testing.T) { // P12.1: nobody asks who it is, nor for its registers
	for _, c := range edges() {
		m := filled(size(c))
		for pc := range 5 {
			for _, who := range append(far(), 0, 1, 7, 8, 9) {
				goes(t, c, m, api.Frame{Op: api.OpDeq, Pc: pc, Who: who, Val: 7, X: 9, Y: 8})
			}
			for _, n := range places(c) {
				goes(t, c, m, api.Frame{Op: api.OpDeq, Pc: pc, Val: n, X: n, Y: n})
			}
		}
	}
}

func TestStepOfOneThatIsOver(t *testing.T) { // P12.1: by each result, and by results that there are none of
	for _, c := range edges() {
		m := filled(size(c))
		for _, res := range overs() {
			for pc := range 5 {
				still(t, c, m, full(api.OpDeq, pc, res))
				still(t, c, m, api.Frame{Op: api.OpDeq, Pc: pc, Res: res})
			}
		}
	}
}

func TestStepOfOtherOps(t *testing.T) { // P12.1: only what goes on as OpDeq is stepped
	for _, c := range edges() {
		m := filled(size(c))
		for _, op := range otherOps() {
			for pc := range 5 {
				still(t, c, m, full(op, pc, api.ResNone))
				still(t, c, m, api.Frame{Op: op, Pc: pc})
			}
		}
	}
}

func TestStepOfNoPc(t *testing.T) { // P12.1: -1, five, and those that lie farther off
	for _, c := range edges() {
		m := filled(size(c))
		for _, pc := range noPcs() {
			still(t, c, m, full(api.OpDeq, pc, api.ResNone))
			still(t, c, m, api.Frame{Op: api.OpDeq, Pc: pc})
		}
	}
}

func TestStepWithMorePartsWrong(t *testing.T) { // P12.1: each part of Goes right or wrong, in all ways
	for _, layout := range edges() {
		for parts := range 1 << 5 {
			bad := func(part int) bool { return parts>>part&1 == 1 }
			c, f, n := layout, full(api.OpDeq, 4, api.ResNone), size(layout)
			if bad(0) {
				c.D = 3
			}
			if bad(1) {
				n++
			}
			if bad(2) {
				f.Res = api.ResAbort
			}
			if bad(3) {
				f.Op = api.OpEnq
			}
			if bad(4) {
				f.Pc = 5
			}
			if parts == 0 {
				goes(t, c, filled(n), f)
			} else {
				still(t, c, filled(n), f)
			}
		}
	}
}

func TestStepByHand(t *testing.T) { // P12.1: written out; of 16 cells, 4 is the head, 6 to 8 are the sequences, 9 to 11 the values
	c := api.Conf{W: 1, D: 1, I: 3}
	base := filled(16)
	base[6], base[7], base[8] = 5, 2, 3
	base[9], base[10], base[11] = 70, most, 0
	for i, x := range []struct {
		f    api.Frame
		head uint64
		at   int
		has  uint64
		want api.Frame
	}{
		{api.Frame{Pc: 0, Val: 7, X: 3, Y: 4}, 5, 0, 0, api.Frame{Pc: 1, Val: 7, X: 5, Y: 4}},
		{api.Frame{Pc: 0, Val: 7, X: 3, Y: 4}, 0, 0, 0, api.Frame{Pc: 1, Val: 7, X: 0, Y: 4}},
		{api.Frame{Pc: 0, Val: 7, X: 3, Y: 4}, most, 0, 0, api.Frame{Pc: 1, Val: 7, X: most, Y: 4}},
		{api.Frame{Pc: 0, Val: 7, X: 3, Y: 4}, 1 << 63, 0, 0, api.Frame{Pc: 1, Val: 7, X: 1 << 63, Y: 4}},

		{api.Frame{Pc: 1, Val: 7, X: 5, Y: 9}, 5, 0, 0, api.Frame{Pc: 2, Val: 7, X: 5, Y: 3}}, // slot 2 in round 1: 3
		{api.Frame{Pc: 1, Val: 7, X: 5, Y: 9}, 8, 0, 0, api.Frame{Pc: 2, Val: 7, X: 5, Y: 3}}, // the head is not asked
		{api.Frame{Pc: 1, Val: 7, X: 8, Y: 5}, 8, 0, 0, api.Frame{Res: api.ResEmpty}},         // slot 2 in round 2: 5; the Y that is loaded is asked
		{api.Frame{Pc: 1, Val: 7, X: 2, Y: 1}, 2, 0, 0, api.Frame{Pc: 0, Val: 7, X: 2, Y: 3}}, // slot 2 in round 0: 1
		{api.Frame{Pc: 1, Val: 7, X: 4, Y: 9}, 4, 0, 0, api.Frame{Res: api.ResEmpty}},         // slot 1 in round 1: 3
		{api.Frame{Pc: 1, Val: 7, X: 1, Y: 9}, 1, 0, 0, api.Frame{Pc: 0, Val: 7, X: 1, Y: 2}}, // slot 1 in round 0: 1
		{api.Frame{Pc: 1, Val: 7, X: 7, Y: 9}, 7, 0, 0, api.Frame{Res: api.ResEmpty}},         // slot 1 in round 2: 5
		{api.Frame{Pc: 1, Val: 7, X: 6, Y: 9}, 6, 0, 0, api.Frame{Pc: 2, Val: 7, X: 6, Y: 5}}, // slot 0 in round 2: 5
		{api.Frame{Pc: 1, Val: 7, X: 3, Y: 9}, 3, 0, 0, api.Frame{Pc: 0, Val: 7, X: 3, Y: 5}}, // slot 0 in round 1: 3
		{api.Frame{Pc: 1, Val: 7, X: 9, Y: 9}, 9, 0, 0, api.Frame{Res: api.ResEmpty}},         // slot 0 in round 3: 7
		{api.Frame{Pc: 1, Val: 0, X: 9, Y: 9}, 9, 0, 0, api.Frame{Res: api.ResEmpty}},

		{api.Frame{Pc: 2, Val: 7, X: 5, Y: 3}, 5, 4, 6, api.Frame{Pc: 3, Val: 7, X: 5, Y: 3}},
		{api.Frame{Pc: 2, Val: 7, X: 5, Y: 3}, 6, 0, 0, api.Frame{Pc: 0, Val: 7, X: 5, Y: 3}},
		{api.Frame{Pc: 2, Val: 7, X: 5, Y: 3}, 4, 0, 0, api.Frame{Pc: 0, Val: 7, X: 5, Y: 3}},
		{api.Frame{Pc: 2, Val: 7, X: 5, Y: 4}, 4, 0, 0, api.Frame{Pc: 0, Val: 7, X: 5, Y: 4}}, // X is exchanged, not Y
		{api.Frame{Pc: 2, Val: 7, X: 4, Y: 9}, 4, 4, 5, api.Frame{Pc: 3, Val: 7, X: 4, Y: 9}}, // the sequence is not asked any more
		{api.Frame{Pc: 2, Val: 7, X: most, Y: 2}, most, 4, 0, api.Frame{Pc: 3, Val: 7, X: most, Y: 2}},
		{api.Frame{Pc: 2, Val: 7, X: most, Y: 2}, 0, 0, 0, api.Frame{Pc: 0, Val: 7, X: most, Y: 2}},
		{api.Frame{Pc: 2, Val: 7, X: 0, Y: 2}, 0, 4, 1, api.Frame{Pc: 3, Val: 7, X: 0, Y: 2}},

		{api.Frame{Pc: 3, Val: 7, X: 5, Y: 3}, 6, 0, 0, api.Frame{Pc: 4, Val: 0, X: 5, Y: 3}},
		{api.Frame{Pc: 3, Val: 7, X: 3, Y: 3}, 6, 0, 0, api.Frame{Pc: 4, Val: 70, X: 3, Y: 3}},
		{api.Frame{Pc: 3, Val: 0, X: 7, Y: 9}, 0, 0, 0, api.Frame{Pc: 4, Val: most, X: 7, Y: 9}},
		{api.Frame{Pc: 3, Val: most, X: most, Y: 2}, 0, 0, 0, api.Frame{Pc: 4, Val: 70, X: most, Y: 2}}, // 2^64 less 1 is a multiple of 3

		{api.Frame{Pc: 4, Val: 7, X: 5, Y: 3}, 6, 8, 4, api.Frame{Val: 7, Res: api.ResOk}},
		{api.Frame{Pc: 4, Val: 7, X: 5, Y: 8}, 6, 8, 4, api.Frame{Val: 7, Res: api.ResOk}}, // by X, not by Y
		{api.Frame{Pc: 4, Val: 7, X: 0, Y: 8}, 6, 6, 2, api.Frame{Val: 7, Res: api.ResOk}},
		{api.Frame{Pc: 4, Val: 0, X: 7, Y: 8}, 6, 7, 6, api.Frame{Val: 0, Res: api.ResOk}},
		{api.Frame{Pc: 4, Val: 7, X: most, Y: 8}, 0, 6, most/3*2 + 2, api.Frame{Val: 7, Res: api.ResOk}},
	} {
		m := slices.Clone(base)
		m[4] = x.head
		want := slices.Clone(m)
		if x.at > 0 {
			want[x.at] = x.has
		}
		x.f.Op, x.want.Op, x.f.Who, x.want.Who = api.OpDeq, api.OpDeq, 9, 9
		if got, g := deq.Step(c, m, x.f); !slices.Equal(got, want) || g != x.want {
			t.Errorf("%d: %v, %+v", i, got, g)
		}
	}
}

func TestStepLoadsTheHead(t *testing.T) { // P12.1: step 0, whatever the registers and the sequence are
	for _, c := range rooms() {
		for _, head := range places(c) {
			for _, seq := range []uint64{free(c, head), free(c, head) + 1, free(c, head) - 1, head} {
				m := atPlace(c, head, seq, head)
				f := api.Frame{Op: api.OpDeq, Who: 2, Val: 7, X: seq + 3, Y: head + 9}
				asks(t, c, m, f, m, api.Frame{Op: api.OpDeq, Pc: 1, Who: 2, Val: 7, X: head, Y: head + 9})
			}
		}
	}
}

// behinds are how far a sequence lies behind the one of a slot that has its number: each power of 2, to either side, and around those.
func behinds() []uint64 {
	out := []uint64{0, 3, most - 2, 1<<63 - 1, 1<<63 + 1}
	for n := range 64 {
		out = append(out, 1<<n, -(uint64(1) << n), 1<<n+1, 1<<63-1<<n, 1<<63+1<<n)
	}
	return out
}

func TestStepSeesWhetherTheNumberIsThere(t *testing.T) { // P12.1: step 1, at places of the first rounds, around 2^63 and 2^64; whatever head and tail are by then
	for _, c := range rooms() {
		for _, x := range places(c) {
			for _, behind := range behinds() {
				seq := free(c, x) + 1 + behind
				call := api.Frame{Op: api.OpDeq, Pc: 0, Who: 2, Val: 7, X: x, Y: seq}
				if behind == 0 {
					call.Pc = 2
				} else if behind >= 1<<63 {
					call = api.Frame{Op: api.OpDeq, Who: 2, Res: api.ResEmpty}
				}
				for _, head := range []uint64{x, x + 1, seq} {
					m := atPlace(c, x, seq, head)
					f := api.Frame{Op: api.OpDeq, Pc: 1, Who: 2, Val: 7, X: x, Y: x + 4}
					asks(t, c, m, f, m, call)
					m[tailAt] = head
					asks(t, c, m, f, m, call)
				}
			}
		}
	}
}

func TestStepKnowsRoundsByHand(t *testing.T) { // P12.1: steps 1, 3 and 4, the slot, and twice the round, written out, also where it goes around
	for _, at := range []struct {
		i       int
		x, free uint64
		slot    int
	}{
		{1, 0, 0, 0}, {1, 1, 2, 0}, {1, 9, 18, 0}, {1, 1<<63 - 1, most - 1, 0}, {1, 1 << 63, 0, 0}, {1, 1<<63 + 1, 2, 0}, {1, most, most - 1, 0},
		{2, 0, 0, 0}, {2, 1, 0, 1}, {2, 2, 2, 0}, {2, 3, 2, 1}, {2, 1 << 63, 1 << 63, 0}, {2, most, most - 1, 1}, {2, most - 2, most - 3, 1},
		{3, 2, 0, 2}, {3, 3, 2, 0}, {3, 4, 2, 1}, {3, 8, 4, 2}, {3, 9, 6, 0}, {3, most, 0xaaaaaaaaaaaaaaaa, 0}, {3, most - 1, 0xaaaaaaaaaaaaaaa8, 2}, {3, 1 << 63, 0x5555555555555554, 2},
		{5, 4, 0, 4}, {5, 5, 2, 0}, {5, most, 0x6666666666666666, 0}, {5, most - 1, 0x6666666666666664, 4},
		{7, 6, 0, 6}, {7, 7, 2, 0}, {7, 1 << 63, 0x2492492492492492, 1}, {7, most, 0x4924924924924924, 1},
		{16, 15, 0, 15}, {16, 16, 2, 0}, {16, 33, 4, 1}, {16, 1 << 63, 1 << 60, 0}, {16, most, 1<<61 - 2, 15},
	} {
		c := api.Conf{W: 2, D: 2, I: at.i}
		for _, x := range []struct{ seq, pc uint64 }{{at.free + 1, 2}, {at.free + 2, 0}, {at.free + 3, 0}, {at.free, 9}, {at.free - 1, 9}} {
			m := filled(size(c))
			m[6+at.slot] = x.seq
			want := api.Frame{Op: api.OpDeq, Pc: int(x.pc), Val: 7, X: at.x, Y: x.seq}
			if x.pc == 9 {
				want = api.Frame{Op: api.OpDeq, Res: api.ResEmpty}
			}
			asks(t, c, m, api.Frame{Op: api.OpDeq, Pc: 1, Val: 7, X: at.x}, m, want)
		}
		m := filled(size(c))
		has := m[6+at.i+at.slot]
		asks(t, c, m, api.Frame{Op: api.OpDeq, Pc: 3, Val: 7, X: at.x}, m, api.Frame{Op: api.OpDeq, Pc: 4, Val: has, X: at.x})
		want := slices.Clone(m)
		want[6+at.slot] = at.free + 2
		asks(t, c, m, api.Frame{Op: api.OpDeq, Pc: 4, Val: 7, X: at.x}, want, api.Frame{Op: api.OpDeq, Val: 7, Res: api.ResOk})
	}
}

func TestStepSeesWhetherTheHeadHasTurned(t *testing.T) { // P12.1: step 2, by each power of 2, to either side, and not at all; whatever the sequence is by then
	for _, c := range rooms() {
		for _, x := range places(c) {
			for _, seq := range []uint64{free(c, x), free(c, x) + 1, free(c, x) + 2, x} {
				f := api.Frame{Op: api.OpDeq, Pc: 2, Who: 2, Val: 7, X: x, Y: seq + 5}
				m := atPlace(c, x, seq, x)
				want := slices.Clone(m)
				want[headAt]++
				call := f
				call.Pc = 3
				asks(t, c, m, f, want, call)
				call.Pc = 0
				for n := range 64 {
					for _, head := range []uint64{x + 1<<n, x - 1<<n} {
						m[headAt] = head
						asks(t, c, m, f, m, call)
					}
				}
			}
		}
	}
}

func TestStepLoadsTheValue(t *testing.T) { // P12.1: step 3, from each slot, and each value; nothing is asked any more, and no cell changes
	for _, c := range rooms() {
		for _, x := range places(c) {
			for _, val := range vals() {
				m := atPlace(c, x, val, val+1)
				m[valAt(c, x)] = val
				f := api.Frame{Op: api.OpDeq, Pc: 3, Who: 2, Val: val + 3, X: x, Y: val + 9}
				asks(t, c, m, f, m, api.Frame{Op: api.OpDeq, Pc: 4, Who: 2, Val: val, X: x, Y: val + 9})
			}
		}
	}
}

func TestStepStoresTheSequence(t *testing.T) { // P12.1: step 4, whatever it was, and whatever Y, and the value's slot, is
	for _, c := range rooms() {
		for _, x := range places(c) {
			for _, val := range vals() {
				m := atPlace(c, x, val, val+1)
				want := slices.Clone(m)
				want[seqAt(c, x)] = free(c, x) + 2
				f := api.Frame{Op: api.OpDeq, Pc: 4, Who: 2, Val: val, X: x, Y: val + 9}
				asks(t, c, m, f, want, api.Frame{Op: api.OpDeq, Who: 2, Val: val, Res: api.ResOk})
			}
		}
	}
}

func TestStepOfAnyNumbers(t *testing.T) { // P12.1: cells, values and registers of any numbers
	for _, c := range rooms() {
		for _, cells := range []api.Mem{filled(size(c)), make(api.Mem, size(c)), slices.Repeat(api.Mem{most}, size(c))} {
			for _, x := range append(places(c), cells[headAt], cells[seqAt(c, 0)]) {
				for pc := range 5 {
					for _, val := range vals() {
						goes(t, c, cells, api.Frame{Op: api.OpDeq, Pc: pc, Who: -3, Val: val, X: x, Y: x + val})
					}
				}
			}
		}
	}
}

func TestStepChangesOneCellAtMost(t *testing.T) { // P12.1: none at steps 0, 1 and 3; the head, and the sequence
	for _, c := range rooms() {
		for _, x := range places(c) {
			for pc, changes := range []int{-1, -1, headAt, -1, seqAt(c, x)} {
				m := atPlace(c, x, free(c, x)+1, x)
				got, _ := deq.Step(c, m, api.Frame{Op: api.OpDeq, Pc: pc, Val: 77, X: x})
				for i := range m {
					if (got[i] != m[i]) != (i == changes) {
						t.Fatalf("step %d at place %d of %+v: cell %d was %d and is %d", pc, x, c, i, m[i], got[i])
					}
				}
			}
		}
	}
}
