package pop_test

import (
	"slices"
	"testing"

	"poacher/api"
	"poacher/frame"
	"poacher/pop"
	"poacher/push"
)

// alone goes on with f till it is over, and tells behind which steps that is.
func alone(t *testing.T, c api.Conf, m api.Mem, f api.Frame) (api.Mem, api.Frame, []int) {
	t.Helper()
	var pcs []int
	for !frame.Over(f) {
		if len(pcs) == pop.Steps() || !push.Goes(c, m, f, api.OpPop, pop.Steps()) {
			t.Fatalf("%+v is not over behind %v, or does not go on", f, pcs)
		}
		pcs = append(pcs, f.Pc)
		m, f = pop.Step(c, m, f)
	}
	return m, f, pcs
}

// listed is what a deque of numbers has, told without package push.
func listed(c api.Conf, m api.Mem, w int) []uint64 {
	var out []uint64
	for x := m[topAt(c, w)]; x != m[bottomAt(c, w)]; x++ {
		out = append(out, m[slotAt(c, w, x)])
	}
	return out
}

// has asks that the deque of worker w has these.
func has(t *testing.T, c api.Conf, m api.Mem, w int, want []uint64) {
	t.Helper()
	if got, is := push.List(c, m, w); !is || !slices.Equal(got, want) {
		t.Fatalf("worker %d at %+v has %v, %v, want %v", w, c, got, is, want)
	}
}

// apart asks that nothing but the top and the bottom of worker w differs.
func apart(t *testing.T, c api.Conf, w int, was, is api.Mem) {
	t.Helper()
	same := slices.Clone(is)
	if len(is) == len(was) {
		copy(same[topAt(c, w):bottomAt(c, w)+1], was[topAt(c, w):])
	}
	if !slices.Equal(same, was) {
		t.Fatalf("worker %d at %+v: %v became %v", w, c, was, is)
	}
}

// path is what steps a pop has, alone, at a deque that has so many.
func path(many int) []int {
	switch many {
	case 0:
		return []int{0, 1, 2, 6}
	case 1:
		return []int{0, 1, 2, 3, 4, 5}
	}
	return []int{0, 1, 2, 3}
}

func TestAloneIsAtOnce(t *testing.T) { // P8.2: each deque that has a list
	for _, c := range edges() {
		for _, w := range workers(c) {
			for _, top := range tops() {
				for many := range c.D + 1 {
					m := atDeque(c, w, top, top+uint64(many))
					was := listed(c, m, w)
					want, over := frame.Once(was, c.D, frame.Begin(api.OpPop, w, 77))
					end, f, pcs := alone(t, c, m, frame.Begin(api.OpPop, w, 77))
					has(t, c, end, w, want)
					if f != over || !slices.Equal(pcs, path(many)) {
						t.Fatalf("worker %d at %+v, top %d, with %d: %+v behind %v, at once: %+v", w, c, top, many, f, pcs, over)
					}
					apart(t, c, w, m, end)
				}
			}
		}
	}
}

func TestAloneByHand(t *testing.T) { // P8.2: written out; worker 1 has top 13, bottom 14, slots 16 and 17
	c := api.Conf{W: 2, D: 2, I: 1}
	for i, x := range []struct {
		top, bottom       uint64
		res               int
		val               uint64
		endTop, endBottom uint64
	}{
		{0, 0, api.ResEmpty, 0, 0, 0}, {5, 5, api.ResEmpty, 0, 5, 5}, {most, most, api.ResEmpty, 0, most, most},
		{0, 1, api.ResOk, 50, 1, 1}, {5, 6, api.ResOk, 51, 6, 6}, {most, 0, api.ResOk, 51, 0, 0}, {1<<63 - 1, 1 << 63, api.ResOk, 51, 1 << 63, 1 << 63},
		{0, 2, api.ResOk, 51, 0, 1}, {5, 7, api.ResOk, 50, 5, 6}, {most, 1, api.ResOk, 50, most, 0}, {most - 1, 0, api.ResOk, 51, most - 1, most},
	} {
		m := filled(18)
		m[13], m[14], m[16], m[17] = x.top, x.bottom, 50, 51
		want := slices.Clone(m)
		want[13], want[14] = x.endTop, x.endBottom
		end, f, _ := alone(t, c, m, frame.Begin(api.OpPop, 1, 77))
		if over := (api.Frame{Op: api.OpPop, Who: 1, Val: x.val, Res: x.res}); f != over || !slices.Equal(end, want) {
			t.Errorf("%d: %+v, %v", i, f, end)
		}
	}
}

func TestAloneWhereThereIsNoList(t *testing.T) { // P8.1: less than 0 is empty, more than there is room for is not
	for _, c := range edges() {
		for _, gap := range gaps(c) {
			if gap <= uint64(c.D) {
				continue
			}
			for _, top := range tops() {
				m := atDeque(c, 0, top, top+gap)
				want, over, steps := slices.Clone(m), api.Frame{Op: api.OpPop, Res: api.ResEmpty}, path(0)
				if gap <= 1<<63 {
					want[bottomAt(c, 0)]--
					over.Res, over.Val, steps = api.ResOk, m[slotAt(c, 0, top+gap-1)], path(2)
				}
				if end, f, pcs := alone(t, c, m, frame.Begin(api.OpPop, 0, 77)); f != over || !slices.Equal(end, want) || !slices.Equal(pcs, steps) {
					t.Fatalf("%+v, top %d, %d behind: %+v behind %v", c, top, gap, f, pcs)
				}
			}
		}
	}
}

// pushed goes on with a push till it is over.
func pushed(c api.Conf, m api.Mem, w int, val uint64) (api.Mem, api.Frame) {
	f := frame.Begin(api.OpPush, w, val)
	for !frame.Over(f) {
		m, f = push.Step(c, m, f)
	}
	return m, f
}

func TestPopsBehindPushes(t *testing.T) { // P8.2: each worker's own, till all are empty, and once more
	for _, c := range edges() {
		m := make(api.Mem, size(c))
		for i := range c.D {
			for w := range c.W {
				m, _ = pushed(c, m, w, uint64(100*w+i))
			}
		}
		for i := c.D - 1; i >= 0; i-- {
			for w := range c.W {
				var f api.Frame
				m, f, _ = alone(t, c, m, frame.Begin(api.OpPop, w, 77))
				if f.Res != api.ResOk || f.Val != uint64(100*w+i) {
					t.Fatalf("number %d of worker %d at %+v: %+v", i, w, c, f)
				}
			}
		}
		for w := range c.W {
			end, f, _ := alone(t, c, m, frame.Begin(api.OpPop, w, 77))
			if f.Res != api.ResEmpty || f.Val != 0 || !slices.Equal(end, m) {
				t.Fatalf("worker %d at %+v has none: %+v", w, c, f)
			}
		}
	}
}

func TestPushesAndPopsInAnyOrder(t *testing.T) { // P8.2: all orders of ten, each as if done at once
	const calls = 10
	for _, c := range []api.Conf{{W: 1, D: 1, I: 1}, {W: 2, D: 2, I: 3}, {W: 2, D: 16, I: 1}} {
		for _, top := range []uint64{0, most - 3} {
			for order := range 1 << calls {
				w, m := c.W-1, atDeque(c, c.W-1, top, top)
				var l []uint64
				for i := range calls {
					val := uint64(i + 1)
					var f, over api.Frame
					if order>>i&1 == 0 {
						m, f = pushed(c, m, w, val)
						l, over = frame.Once(l, c.D, frame.Begin(api.OpPush, w, val))
					} else {
						m, f, _ = alone(t, c, m, frame.Begin(api.OpPop, w, val))
						l, over = frame.Once(l, c.D, frame.Begin(api.OpPop, w, val))
					}
					if f != over {
						t.Fatalf("order %b at %+v, call %d: %+v, at once: %+v", order, c, i, f, over)
					}
					has(t, c, m, w, l)
				}
			}
		}
	}
}

// turned takes the first number of a deque ahead of a pop's step, as one who steals would.
func turned(t *testing.T, c api.Conf, m api.Mem, ahead int) (api.Mem, api.Frame, []int) {
	t.Helper()
	f := frame.Begin(api.OpPop, 0, 77)
	for range ahead {
		m, f = pop.Step(c, m, f)
	}
	m[topAt(c, 0)]++
	before := path(2)
	if ahead > 4 {
		t.Fatal("ahead of step 4 at most")
	}
	end, f, pcs := alone(t, c, m, f)
	return end, f, append(before[:ahead:ahead], pcs...)
}

func TestTopTurnsAheadOfAStep(t *testing.T) { // P8.1: who takes the only number is seen at step 2, or at step 4
	for _, c := range edges() {
		for _, top := range tops() {
			for ahead := range 5 {
				m := atDeque(c, 0, top, top+1)
				end, f, pcs := turned(t, c, slices.Clone(m), ahead)
				m[topAt(c, 0)]++
				want := path(0)
				if ahead > 2 {
					want = []int{0, 1, 2, 3, 4, 6}
				}
				if over := (api.Frame{Op: api.OpPop, Res: api.ResEmpty}); f != over || !slices.Equal(pcs, want) || !slices.Equal(end, m) {
					t.Fatalf("%+v, top %d, turned ahead of step %d: %+v behind %v, %v", c, top, ahead, f, pcs, end)
				}
				has(t, c, end, 0, nil)
			}
		}
	}
}

func TestTopTurnsWhereThereAreTwo(t *testing.T) { // P8.1: the other one is popped, whenever the first one is taken
	for _, c := range edges() {
		if c.D < 2 {
			continue
		}
		for _, top := range tops() {
			for ahead := range 4 {
				m := atDeque(c, 0, top, top+2)
				end, f, pcs := turned(t, c, slices.Clone(m), ahead)
				want := path(1)
				if ahead > 2 {
					want = path(2)
				}
				if over := (api.Frame{Op: api.OpPop, Val: m[slotAt(c, 0, top+1)], Res: api.ResOk}); f != over || !slices.Equal(pcs, want) {
					t.Fatalf("%+v, top %d, turned ahead of step %d: %+v behind %v", c, top, ahead, f, pcs)
				}
				has(t, c, end, 0, nil)
			}
		}
	}
}

func TestExample(t *testing.T) { // the chapter's example
	c := api.Conf{W: 1, D: 2, I: 1}
	m := make(api.Mem, 13)
	end, f, pcs := alone(t, c, m, frame.Begin(api.OpPop, 0, 0))
	if want := (api.Frame{Op: api.OpPop, Res: api.ResEmpty}); len(pcs) != 4 || f != want || !slices.Equal(end, m) {
		t.Errorf("%v, %+v, %v", pcs, f, end)
	}
}

// shape is a layout, with cells and a call, of which some go on.
type shape struct {
	c api.Conf
	n int
	f api.Frame
}

// shapes are all kinds of steps, and of calls that do not go on.
func shapes() []shape {
	var out []shape
	for _, c := range edges() {
		n := size(c)
		for pc := range 8 {
			for _, y := range []uint64{4, 5, 6} {
				out = append(out, shape{c, n, api.Frame{Op: api.OpPop, Pc: pc, Who: c.W - 1, Val: 9, X: 5, Y: y}})
			}
		}
		for _, off := range []int{n - 1, n + 1, 0} {
			out = append(out, shape{c, off, api.Frame{Op: api.OpPop}})
		}
		out = append(out, shape{c, n, full(api.OpPush, 0, 0, 0)}, shape{c, n, full(api.OpPop, 0, c.W, 0)}, shape{c, n, full(api.OpPop, 0, 0, 1)})
	}
	return append(out, shape{api.Conf{}, 0, api.Frame{Op: api.OpPop}}, shape{api.Conf{}, 18, api.Frame{Op: api.OpPop}})
}

// cellsOf are filled cells, where each deque has one number, with more memory behind their end.
func (s shape) cellsOf(behind int) api.Mem {
	m := append(make(api.Mem, 0, s.n+behind), filled(s.n)...)
	if s.n == size(s.c) && s.c.W > 0 {
		for w := range s.c.W {
			m[topAt(s.c, w)], m[bottomAt(s.c, w)] = 5, 6
		}
	}
	return m
}

func TestHandedInStays(t *testing.T) { // R3: also what lies behind the end
	for _, s := range shapes() {
		m := s.cellsOf(4)
		whole := slices.Clone(m[:cap(m)])
		pop.Step(s.c, m, s.f)
		if !slices.Equal(m[:cap(m)], whole) {
			t.Fatalf("%+v: %v is now %v", s, whole, m[:cap(m)])
		}
	}
}

func TestAnswerIsTheCallersOwn(t *testing.T) { // R3: neither changes the other, not behind its end either
	const mine, other = 4321, 1234
	spoil := func(l []uint64, n uint64) {
		for i := range l[:cap(l)] {
			l[:cap(l)][i] = n
		}
	}
	for _, s := range shapes() {
		for _, behind := range []int{0, 1, 5} {
			m := s.cellsOf(behind)
			end, _ := pop.Step(s.c, m, s.f)
			want := slices.Clone(end)
			spoil(m, other)
			if !slices.Equal(end, want) {
				t.Fatalf("%+v: what was handed in changes the answer", s)
			}
			spoil(end, mine)
			_ = append(end, mine)
			if slices.Contains(m[:cap(m)], mine) {
				t.Fatalf("%+v: the answer changes what was handed in", s)
			}
		}
	}
}

func TestAnswersShareNothing(t *testing.T) { // R3, R5: and the same is answered again
	for _, s := range shapes() {
		m := s.cellsOf(0)
		one, f := pop.Step(s.c, m, s.f)
		two, g := pop.Step(s.c, m, s.f)
		if !slices.Equal(one, two) || f != g {
			t.Fatalf("%+v: another answer the second time", s)
		}
		want := slices.Clone(two)
		clear(one[:cap(one)])
		if !slices.Equal(two, want) {
			t.Fatalf("%+v: two answers share numbers", s)
		}
	}
}

func TestNilIsAsGoodAsEmpty(t *testing.T) { // R6
	for _, c := range append(edges(), wrong()...) {
		for _, f := range []api.Frame{{Op: api.OpPop}, full(api.OpPop, 1, 0, api.ResNone)} {
			one, a := pop.Step(c, nil, f)
			two, b := pop.Step(c, api.Mem{}, f)
			if len(one) != 0 || len(two) != 0 || a != f || b != f {
				t.Fatalf("%+v, %+v: %v, %+v of nil; %v, %+v of no cells", c, f, one, a, two, b)
			}
		}
	}
}
