package push_test

import (
	"math"
	"slices"
	"testing"

	"poacher/api"
	"poacher/push"
)

const most = math.MaxUint64

// far are numbers that name nothing; narrower kinds would take some of them for small ones.
func far() []int {
	return []int{
		math.MinInt, math.MinInt + 1, -1 << 62, math.MinInt32, -1 << 32, -1<<32 + 1, -256, -255, -16, -8, -4, -3, -2, -1,
		256, 257, 1 << 16, math.MaxInt32, 1 << 32, 1<<32 + 1, 1<<32 + 3, 1 << 62, math.MaxInt - 1, math.MaxInt,
	}
}

func overs() []int { return append(far(), 1, 2, 3, 4, 5, 6, 8) }

// otherOps are Ops that are no push, and Ops that there are none of.
func otherOps() []int { return append(far(), 1, 2, 3, 4, 5, 6, 7, 8, 9, 16) }

func noPcs() []int { return append(far(), 4, 5, 6, 7, 8, 12) }

func noWorkers(c api.Conf) []int { return append(far(), c.W, c.W+1, c.W+2, c.W+8) }

// A worker's cells are told anew, without package lay: what they begin at, and what each of them is from there.
func begins(c api.Conf, w int) int { return 6 + 2*c.I + w*(3+c.D) }

func topAt(c api.Conf, w int) int { return begins(c, w) }

func bottomAt(c api.Conf, w int) int { return begins(c, w) + 1 }

func slotAt(c api.Conf, w int, x uint64) int { return begins(c, w) + 3 + int(x%uint64(c.D)) }

func size(c api.Conf) int { return begins(c, c.W) }

// layouts are all that may be.
func layouts() []api.Conf {
	var out []api.Conf
	for w := 1; w <= 8; w++ {
		for _, d := range []int{1, 2, 4, 8, 16} {
			for i := 1; i <= 16; i++ {
				for spin := 0; spin <= 4; spin++ {
					out = append(out, api.Conf{W: w, D: d, I: i, Spin: spin})
				}
			}
		}
	}
	return out
}

// edges are layouts at the limits, and some between.
func edges() []api.Conf {
	out := []api.Conf{{W: 2, D: 2, I: 1}, {W: 3, D: 4, I: 5, Spin: 1}, {W: 5, D: 8, I: 7, Spin: 2}}
	for _, w := range []int{1, 8} {
		for _, d := range []int{1, 2, 16} {
			for _, i := range []int{1, 16} {
				out = append(out, api.Conf{W: w, D: d, I: i}, api.Conf{W: w, D: d, I: i, Spin: 4})
			}
		}
	}
	return out
}

// wrong are layouts that may not be: one part of each is wrong, or all.
func wrong() []api.Conf {
	out := []api.Conf{{}, {W: -1, D: -1, I: -1, Spin: -1}, {W: 9, D: 32, I: 17, Spin: 5}}
	part := func(set func(c *api.Conf, n int), beyond ...int) {
		for _, n := range append(beyond, far()...) {
			c := api.Conf{W: 2, D: 4, I: 3, Spin: 1}
			set(&c, n)
			out = append(out, c)
		}
	}
	part(func(c *api.Conf, n int) { c.W = n }, 0, 9, 10, 16)
	part(func(c *api.Conf, n int) { c.D = n }, 0, 3, 5, 6, 7, 9, 12, 15, 17, 24, 32)
	part(func(c *api.Conf, n int) { c.I = n }, 0, 17, 18, 32)
	part(func(c *api.Conf, n int) { c.Spin = n }, 5, 6, 8)
	return out
}

// filled are cells of which no two are the same, and none is 0.
func filled(n int) api.Mem {
	m := make(api.Mem, n)
	for i := range m {
		m[i] = uint64(i+1) * 0x9e3779b97f4a7c15
	}
	return m
}

// atDeque are filled cells, with that top and that bottom of worker w.
func atDeque(c api.Conf, w int, top, bottom uint64) api.Mem {
	m := filled(size(c))
	m[topAt(c, w)], m[bottomAt(c, w)] = top, bottom
	return m
}

// sizes are those that a layout which may not be might seem to have, and some more.
func sizes(c api.Conf) []int {
	out := []int{0, 1, 6, size(api.Conf{W: 2, D: 4, I: 3, Spin: 1})}
	if n := size(c); n > 0 && n < 1000 && c.W < 100 && c.D < 100 && c.I < 100 {
		out = append(out, n)
	}
	return out
}

// tops are those around 0, 2^32, 2^63 and 2^64.
func tops() []uint64 {
	var out []uint64
	for n := range uint64(19) {
		out = append(out, n, 1<<32-9+n, 1<<63-9+n, most-n)
	}
	return out
}

// gaps are how far a bottom lies behind a top: empty, some, full, more than there is room for, and less than 0.
func gaps(c api.Conf) []uint64 {
	out := []uint64{1<<31 - 1, 1 << 31, 1<<32 - 1, 1 << 32, 1<<32 + 1, 1<<63 - 1, 1 << 63, 1<<63 + 1}
	for n := range uint64(c.D + 4) {
		out = append(out, n, most-n)
	}
	return out
}

func vals() []uint64 { return []uint64{0, 1, 7, 1 << 32, 1 << 63, most} }

// workers are the first one, the last one, and one between.
func workers(c api.Conf) []int { return slices.Compact([]int{0, c.W / 2, c.W - 1}) }

// stepped is told anew, without a table, and without the packages below.
func stepped(c api.Conf, m api.Mem, f api.Frame) (api.Mem, api.Frame) {
	out := slices.Clone(m)
	over := func(res int) api.Frame { return api.Frame{Op: f.Op, Who: f.Who, Val: f.Val, Res: res} }
	switch f.Pc {
	case 0:
		f.Pc, f.X = 1, m[bottomAt(c, f.Who)]
	case 1:
		top := m[topAt(c, f.Who)]
		room := false
		for n := range uint64(c.D) {
			room = room || top+n == f.X
		}
		if !room {
			return out, over(2)
		}
		f.Pc, f.Y = 2, top
	case 2:
		out[slotAt(c, f.Who, f.X)] = f.Val
		f.Pc = 3
	case 3:
		out[bottomAt(c, f.Who)] = f.X + 1
		return out, over(1)
	}
	return out, f
}

// asks that Step answers these.
func asks(t *testing.T, c api.Conf, m api.Mem, f api.Frame, want api.Mem, call api.Frame) {
	t.Helper()
	got, g := push.Step(c, m, f)
	if !slices.Equal(got, want) || g != call {
		t.Fatalf("Step(%+v, %v, %+v) = %v, %+v, want %v, %+v", c, m, f, got, g, want, call)
	}
}

// still asks that f does not go on as a push, and that a step leaves all as it was.
func still(t *testing.T, c api.Conf, m api.Mem, f api.Frame) {
	t.Helper()
	if push.Goes(c, m, f, api.OpPush, 4) {
		t.Fatalf("%+v goes on at %+v, of %d cells", f, c, len(m))
	}
	asks(t, c, m, f, m, f)
}

// full are calls of which no field is 0, but for what is asked.
func full(op, pc, who, res int) api.Frame {
	return api.Frame{Op: op, Pc: pc, Who: who, Val: 4, X: 5, Y: 6, Res: res}
}

func TestGoesAtEachLayout(t *testing.T) { // P7.1: as many cells as it has, one fewer, one more, and none
	for _, c := range layouts() {
		n := size(c)
		for _, f := range []api.Frame{{}, full(api.OpPush, 3, c.W-1, api.ResNone)} {
			if !push.Goes(c, filled(n), f, api.OpPush, 4) {
				t.Fatalf("%+v does not go on at %+v", f, c)
			}
			for _, m := range []api.Mem{filled(n - 1), filled(n + 1), filled(n)[:n-1], filled(2 * n), filled(1), {}, nil} {
				still(t, c, m, f)
			}
		}
	}
}

func TestGoesAtNoLayout(t *testing.T) { // P7.1: each limit, one past it, and below 1; also with no cells, of which such a layout has as many
	for _, c := range wrong() {
		for _, n := range sizes(c) {
			for _, who := range []int{0, 1, 8, -1} {
				still(t, c, filled(n), full(api.OpPush, 0, who, api.ResNone))
			}
		}
		still(t, c, nil, api.Frame{})
	}
}

func TestGoesOfEachWorker(t *testing.T) { // P7.1: and of none
	for _, c := range edges() {
		m := filled(size(c))
		for w := range c.W {
			if !push.Goes(c, m, full(api.OpPush, 0, w, api.ResNone), api.OpPush, 4) {
				t.Fatalf("worker %d does not go on at %+v", w, c)
			}
		}
		for _, w := range noWorkers(c) {
			for pc := range 4 {
				still(t, c, m, full(api.OpPush, pc, w, api.ResNone))
			}
		}
	}
}

func TestGoesOfOneThatIsOver(t *testing.T) { // P7.1: by each result, and by results that there are none of
	for _, c := range edges() {
		m := filled(size(c))
		for _, res := range overs() {
			for pc := range 4 {
				still(t, c, m, full(api.OpPush, pc, 0, res))
			}
		}
	}
}

func TestGoesOfEachOp(t *testing.T) { // P7.1: the one that is asked alone, also where there is no such Op
	c := api.Conf{W: 2, D: 2, I: 1}
	m := filled(size(c))
	all := append(otherOps(), api.OpPush)
	for _, has := range all {
		for _, asked := range all {
			f := full(has, 1, 1, api.ResNone)
			if got := push.Goes(c, m, f, asked, 4); got != (has == asked) {
				t.Fatalf("an Op of %d, and %d is asked: %v", has, asked, got)
			}
		}
		if has != api.OpPush {
			for pc := range 4 {
				still(t, c, m, full(has, pc, 1, api.ResNone))
			}
		}
	}
}

func TestGoesOfEachPc(t *testing.T) { // P7.1: from 0 to below how many steps there are
	c := api.Conf{W: 2, D: 2, I: 1}
	m := filled(size(c))
	all := append(far(), 0, 1, 2, 3, 4, 5, 6, 7)
	for _, pc := range all {
		for _, pcs := range all {
			for _, op := range []int{api.OpPush, api.OpPop, api.OpAll} {
				want := pc >= 0 && pc < pcs
				if got := push.Goes(c, m, full(op, pc, 0, api.ResNone), op, pcs); got != want {
					t.Fatalf("Pc %d of %d steps: %v", pc, pcs, got)
				}
			}
		}
	}
	for _, pc := range noPcs() {
		still(t, c, m, full(api.OpPush, pc, 0, api.ResNone))
	}
}

func TestGoesByHand(t *testing.T) { // P7.1: written out; one part of each is wrong
	c := api.Conf{W: 2, D: 2, I: 1}
	m := make(api.Mem, 18)
	good := api.Frame{Op: 1, Pc: 6, Who: 1}
	for i, x := range []struct {
		c       api.Conf
		m       api.Mem
		f       api.Frame
		op, pcs int
		want    bool
	}{
		{c, m, good, 1, 7, true}, {c, m, good, 1, math.MaxInt, true}, {c, m, api.Frame{Op: 1}, 1, 1, true},
		{api.Conf{W: 2, D: 3, I: 1}, make(api.Mem, 20), good, 1, 7, false}, {api.Conf{W: 2, D: 2, I: 1, Spin: 5}, m, good, 1, 7, false},
		{c, m[:17], good, 1, 7, false}, {c, make(api.Mem, 19), good, 1, 7, false}, {c, nil, good, 1, 7, false},
		{c, m, api.Frame{Op: 1, Pc: 6, Who: 1, Res: 1}, 1, 7, false}, {c, m, api.Frame{Op: 1, Pc: 6, Who: 1, Res: -1}, 1, 7, false},
		{c, m, api.Frame{Op: 1, Pc: 6, Who: 2}, 1, 7, false}, {c, m, api.Frame{Op: 1, Pc: 6, Who: -1}, 1, 7, false},
		{c, m, good, 0, 7, false}, {c, m, good, 2, 7, false},
		{c, m, good, 1, 6, false}, {c, m, good, 1, 0, false}, {c, m, good, 1, -1, false}, {c, m, api.Frame{Op: 1, Pc: -1, Who: 1}, 1, 7, false},
	} {
		if got := push.Goes(x.c, x.m, x.f, x.op, x.pcs); got != x.want {
			t.Errorf("%d: %v", i, got)
		}
	}
}

func TestStepByHand(t *testing.T) { // P7.2: written out; worker 1 has top 13, bottom 14, slots 16 and 17
	c := api.Conf{W: 2, D: 2, I: 1}
	base := filled(18)
	for i, x := range []struct {
		f           api.Frame
		top, bottom uint64
		at          int
		has         uint64
		want        api.Frame
	}{
		{api.Frame{Pc: 0, Val: 7, X: 3, Y: 4}, 5, 6, 0, 0, api.Frame{Pc: 1, Val: 7, X: 6, Y: 4}},
		{api.Frame{Pc: 1, Val: 7, X: 5, Y: 4}, 5, 9, 0, 0, api.Frame{Pc: 2, Val: 7, X: 5, Y: 5}},
		{api.Frame{Pc: 1, Val: 7, X: 6, Y: 4}, 5, 9, 0, 0, api.Frame{Pc: 2, Val: 7, X: 6, Y: 5}},
		{api.Frame{Pc: 1, Val: 7, X: 7, Y: 4}, 5, 9, 0, 0, api.Frame{Val: 7, Res: api.ResFull}},
		{api.Frame{Pc: 1, Val: 7, X: 4, Y: 4}, 5, 5, 0, 0, api.Frame{Val: 7, Res: api.ResFull}},
		{api.Frame{Pc: 1, Val: 7, X: 0, Y: 4}, most, 5, 0, 0, api.Frame{Pc: 2, Val: 7, X: 0, Y: most}},
		{api.Frame{Pc: 1, Val: 7, X: 1, Y: 4}, most, 5, 0, 0, api.Frame{Val: 7, Res: api.ResFull}},
		{api.Frame{Pc: 2, Val: 7, X: 2, Y: 4}, 5, 6, 16, 7, api.Frame{Pc: 3, Val: 7, X: 2, Y: 4}},
		{api.Frame{Pc: 2, Val: 7, X: most, Y: 4}, 5, 6, 17, 7, api.Frame{Pc: 3, Val: 7, X: most, Y: 4}},
		{api.Frame{Pc: 3, Val: 7, X: 2, Y: 4}, 5, 6, 14, 3, api.Frame{Val: 7, Res: api.ResOk}},
		{api.Frame{Pc: 3, Val: 7, X: most, Y: 4}, 5, 6, 14, 0, api.Frame{Val: 7, Res: api.ResOk}},
	} {
		m := slices.Clone(base)
		m[13], m[14] = x.top, x.bottom
		want := slices.Clone(m)
		if x.at > 0 {
			want[x.at] = x.has
		}
		x.f.Who, x.want.Who = 1, 1
		if got, g := push.Step(c, m, x.f); !slices.Equal(got, want) || g != x.want {
			t.Errorf("%d: %v, %+v", i, got, g)
		}
	}
}

func TestStepAtEachDeque(t *testing.T) { // P7.2: X is the bottom, or not; empty, some, full, more, and less than 0
	for _, c := range edges() {
		for _, w := range workers(c) {
			for _, top := range tops() {
				for _, gap := range gaps(c) {
					m := atDeque(c, w, top, top+gap)
					for pc := range 4 {
						for _, x := range []uint64{top + gap, top + gap + 1, top - gap} {
							f := api.Frame{Pc: pc, Who: w, Val: 77, X: x, Y: 6}
							want, call := stepped(c, m, f)
							asks(t, c, m, f, want, call)
						}
					}
				}
			}
		}
	}
}

func TestStepOfAnyNumbers(t *testing.T) { // P7.2: each value, and cells of any numbers
	numbers := append(vals(), tops()...)
	for _, c := range edges() {
		m := filled(size(c))
		for _, w := range workers(c) {
			for pc := range 4 {
				for _, n := range numbers {
					for _, val := range vals() {
						f := api.Frame{Pc: pc, Who: w, Val: val, X: n, Y: n + val}
						want, call := stepped(c, m, f)
						asks(t, c, m, f, want, call)
					}
				}
			}
		}
	}
}

func TestStepChangesOneCellAtMost(t *testing.T) { // P7.2, P7.4: the slot of X, or the bottom, of its own deque
	for _, c := range edges() {
		for _, w := range workers(c) {
			for _, x := range tops() {
				for pc := range 4 {
					m := atDeque(c, w, x, x)
					got, _ := push.Step(c, m, api.Frame{Pc: pc, Who: w, Val: 77, X: x})
					may := map[int]int{0: -1, 1: -1, 2: slotAt(c, w, x), 3: bottomAt(c, w)}[pc]
					for i := range m {
						if (got[i] != m[i]) != (i == may) {
							t.Fatalf("step %d of worker %d at %+v: cell %d was %d and is %d", pc, w, c, i, m[i], got[i])
						}
					}
				}
			}
		}
	}
}

func TestListByHand(t *testing.T) { // P7.3: written out; worker 0 has top 8, bottom 9, slots 11 to 14, worker 1 has top 15
	c := api.Conf{W: 2, D: 4, I: 1}
	for i, x := range []struct {
		top, bottom uint64
		want        []uint64
		is          bool
	}{
		{0, 0, nil, true}, {0, 1, []uint64{50}, true}, {1, 2, []uint64{51}, true}, {0, 4, []uint64{50, 51, 52, 53}, true},
		{3, 6, []uint64{53, 50, 51}, true}, {3, 7, []uint64{53, 50, 51, 52}, true}, {9, 11, []uint64{51, 52}, true},
		{most, most, nil, true}, {most, 0, []uint64{53}, true}, {most - 1, 2, []uint64{52, 53, 50, 51}, true}, {1<<63 - 1, 1<<63 + 1, []uint64{53, 50}, true},
		{0, 5, nil, false}, {1, 0, nil, false}, {most - 1, 3, nil, false}, {0, most, nil, false}, {0, 1 << 63, nil, false}, {0, 1<<63 - 1, nil, false}, {5, 1 << 32, nil, false},
	} {
		m := filled(22)
		m[8], m[9] = x.top, x.bottom
		copy(m[11:15], []uint64{50, 51, 52, 53})
		if got, is := push.List(c, m, 0); is != x.is || !slices.Equal(got, x.want) {
			t.Errorf("%d: %v, %v", i, got, is)
		}
		m[15], m[16] = 7, 7
		if got, is := push.List(c, m, 1); !is || len(got) != 0 {
			t.Errorf("%d: worker 1 has %v, %v", i, got, is)
		}
	}
}

func TestListOfEachDeque(t *testing.T) { // P7.3: also where its numbers lie around the end of the slots
	for _, c := range edges() {
		for _, w := range workers(c) {
			for _, top := range tops() {
				for _, gap := range gaps(c) {
					m := atDeque(c, w, top, top+gap)
					var want []uint64
					may := gap <= uint64(c.D)
					for n := uint64(0); may && n < gap; n++ {
						want = append(want, m[slotAt(c, w, top+n)])
					}
					if got, is := push.List(c, m, w); is != may || !slices.Equal(got, want) {
						t.Fatalf("List of worker %d at %+v, top %d, %d behind: %v, %v, want %v", w, c, top, gap, got, is, want)
					}
				}
			}
		}
	}
}

func TestListOfNoDeque(t *testing.T) { // P7.3: other cells than there are, no worker, and no layout
	none := func(c api.Conf, m api.Mem, w int) {
		t.Helper()
		if got, is := push.List(c, m, w); is || len(got) != 0 {
			t.Fatalf("List(%+v, %v, %d) = %v, %v", c, m, w, got, is)
		}
	}
	for _, c := range edges() {
		n := size(c)
		for _, m := range []api.Mem{make(api.Mem, n-1), make(api.Mem, n+1), make(api.Mem, n)[:n-1], make(api.Mem, 2*n), {}, nil} {
			for w := range c.W {
				none(c, m, w)
			}
		}
		for _, w := range noWorkers(c) {
			none(c, make(api.Mem, n), w)
		}
	}
	for _, c := range wrong() {
		for _, n := range sizes(c) {
			for _, w := range []int{0, 1, 2, 8, -1} {
				none(c, make(api.Mem, n), w)
			}
		}
		none(c, nil, 0)
	}
}

func TestListOfNewCells(t *testing.T) { // P7.3: each layout that may be
	for _, c := range layouts() {
		for w := range c.W {
			if got, is := push.List(c, make(api.Mem, size(c)), w); !is || len(got) != 0 {
				t.Fatalf("worker %d at %+v has %v, %v", w, c, got, is)
			}
		}
	}
}
