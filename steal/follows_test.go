package steal_test

import (
	"slices"
	"testing"

	"poacher/api"
	"poacher/frame"
	"poacher/pop"
	"poacher/push"
	"poacher/steal"
)

// alone goes on with f till it is over, and tells behind which steps that is.
func alone(t *testing.T, c api.Conf, m api.Mem, f api.Frame) (api.Mem, api.Frame, []int) {
	t.Helper()
	var pcs []int
	for !frame.Over(f) {
		if len(pcs) == steal.Steps() || !push.Goes(c, m, f, api.OpSteal, steal.Steps()) {
			t.Fatalf("%+v is not over behind %v, or does not go on", f, pcs)
		}
		pcs = append(pcs, f.Pc)
		m, f = steal.Step(c, m, f)
	}
	return m, f, pcs
}

// listed is what a deque of numbers has, told without package push; one that has no list ends behind one number too many.
func listed(c api.Conf, m api.Mem, w int) []uint64 {
	var out []uint64
	for x := m[topAt(c, w)]; x != m[bottomAt(c, w)] && len(out) <= c.D; x++ {
		out = append(out, m[slotAt(c, w, x)])
	}
	return out
}

// has asks that the deque of worker w has these.
func has(t *testing.T, c api.Conf, m api.Mem, w int, want []uint64) {
	t.Helper()
	if got, is := push.List(c, m, w); !is || !slices.Equal(got, want) || steal.Some(c, m, w) != (len(want) > 0) {
		t.Fatalf("worker %d at %+v has %v, %v, want %v", w, c, got, is, want)
	}
}

// path is what steps a steal has, alone.
func path(some bool) []int {
	if some {
		return []int{0, 1, 2, 3}
	}
	return []int{0, 1}
}

func TestAloneIsAtOnce(t *testing.T) { // P9.2: each deque that has a list
	for _, c := range edges() {
		for _, w := range workers(c) {
			for _, top := range tops() {
				for many := range c.D + 1 {
					m := atDeque(c, w, top, top+uint64(many))
					want, over := frame.Once(listed(c, m, w), c.D, frame.Begin(api.OpSteal, w, 77))
					end, f, pcs := alone(t, c, m, frame.Begin(api.OpSteal, w, 77))
					has(t, c, end, w, want)
					if f != over || !slices.Equal(pcs, path(many > 0)) {
						t.Fatalf("worker %d at %+v, top %d, with %d: %+v behind %v, at once: %+v", w, c, top, many, f, pcs, over)
					}
					if many > 0 {
						m[topAt(c, w)]++
					}
					if !slices.Equal(end, m) {
						t.Fatalf("worker %d at %+v, top %d, with %d: %v, want %v", w, c, top, many, end, m)
					}
				}
			}
		}
	}
}

func TestAloneByHand(t *testing.T) { // P9.2: written out; worker 1 has top 13, bottom 14, slots 16 and 17
	c := api.Conf{W: 2, D: 2, I: 1}
	for i, x := range []struct {
		top, bottom uint64
		res         int
		val         uint64
		endTop      uint64
	}{
		{0, 0, api.ResEmpty, 0, 0}, {5, 5, api.ResEmpty, 0, 5}, {most, most, api.ResEmpty, 0, most},
		{0, 1, api.ResOk, 50, 1}, {5, 6, api.ResOk, 51, 6}, {most, 0, api.ResOk, 51, 0}, {1<<63 - 1, 1 << 63, api.ResOk, 51, 1 << 63},
		{0, 2, api.ResOk, 50, 1}, {5, 7, api.ResOk, 51, 6}, {most, 1, api.ResOk, 51, 0}, {most - 1, 0, api.ResOk, 50, most},
	} {
		m := filled(18)
		m[13], m[14], m[16], m[17] = x.top, x.bottom, 50, 51
		want := slices.Clone(m)
		want[13] = x.endTop
		end, f, _ := alone(t, c, m, frame.Begin(api.OpSteal, 1, 77))
		if over := (api.Frame{Op: api.OpSteal, Who: 1, Val: x.val, Res: x.res}); f != over || !slices.Equal(end, want) {
			t.Errorf("%d: %+v, %v", i, f, end)
		}
	}
}

func TestAloneWhereThereIsNoList(t *testing.T) { // P9.1: less than 0 is empty, more than there is room for is not
	for _, c := range edges() {
		for _, gap := range gaps(c) {
			if gap <= uint64(c.D) {
				continue
			}
			for _, top := range tops() {
				m := atDeque(c, 0, top, top+gap)
				want, over, steps := slices.Clone(m), api.Frame{Op: api.OpSteal, Res: api.ResEmpty}, path(false)
				if gap < 1<<63 {
					want[topAt(c, 0)]++
					over.Res, over.Val, steps = api.ResOk, m[slotAt(c, 0, top)], path(true)
				}
				if end, f, pcs := alone(t, c, m, frame.Begin(api.OpSteal, 0, 77)); f != over || !slices.Equal(end, want) || !slices.Equal(pcs, steps) {
					t.Fatalf("%+v, top %d, %d behind: %+v behind %v", c, top, gap, f, pcs)
				}
			}
		}
	}
}

// done goes on with a call of any kind till it is over.
func done(t *testing.T, c api.Conf, m api.Mem, f api.Frame) (api.Mem, api.Frame) {
	t.Helper()
	for n := 0; !frame.Over(f); n++ {
		if n == pop.Steps() {
			t.Fatalf("%+v is not over behind %d steps", f, n)
		}
		m, f = oneStep(c, m, f)
	}
	return m, f
}

// oneStep is the next step of a call at a deque.
func oneStep(c api.Conf, m api.Mem, f api.Frame) (api.Mem, api.Frame) {
	switch f.Op {
	case api.OpPush:
		return push.Step(c, m, f)
	case api.OpPop:
		return pop.Step(c, m, f)
	}
	return steal.Step(c, m, f)
}

func TestStealsBehindPushes(t *testing.T) { // P9.2: off each worker, in the order of the pushes, till all are empty, and once more
	for _, c := range edges() {
		m := make(api.Mem, size(c))
		for i := range c.D {
			for w := range c.W {
				m, _ = done(t, c, m, frame.Begin(api.OpPush, w, uint64(100*w+i)))
			}
		}
		for i := range c.D {
			for w := range c.W {
				var f api.Frame
				m, f, _ = alone(t, c, m, frame.Begin(api.OpSteal, w, 77))
				if f.Res != api.ResOk || f.Val != uint64(100*w+i) {
					t.Fatalf("number %d of worker %d at %+v: %+v", i, w, c, f)
				}
			}
		}
		for w := range c.W {
			end, f, _ := alone(t, c, m, frame.Begin(api.OpSteal, w, 77))
			if f.Res != api.ResEmpty || f.Val != 0 || !slices.Equal(end, m) {
				t.Fatalf("worker %d at %+v has none: %+v", w, c, f)
			}
		}
	}
}

func TestCallsInAnyOrder(t *testing.T) { // P9.2: all orders of eight pushes, pops and steals, each as if done at once
	const calls, orders = 8, 3 * 3 * 3 * 3 * 3 * 3 * 3 * 3
	for _, c := range []api.Conf{{W: 1, D: 1, I: 1}, {W: 2, D: 2, I: 3}, {W: 2, D: 16, I: 1}} {
		for _, top := range []uint64{0, most - 2} {
			for order := range orders {
				w, m := c.W-1, atDeque(c, c.W-1, top, top)
				var l []uint64
				for i := range calls {
					begun := frame.Begin([]int{api.OpPush, api.OpPop, api.OpSteal}[order%3], w, uint64(i+1))
					order /= 3
					var f, over api.Frame
					m, f = done(t, c, m, begun)
					if l, over = frame.Once(l, c.D, begun); f != over {
						t.Fatalf("%+v, top %d, call %d: %+v, at once: %+v", c, top, i, f, over)
					}
					has(t, c, m, w, l)
				}
			}
		}
	}
}

func TestTopTurnsAheadOfAStep(t *testing.T) { // P9.2: who was quicker is seen at step 1, or at step 3, and nothing changes
	for _, c := range edges() {
		for _, top := range tops() {
			for many := range min(c.D, 3) {
				for ahead := range 4 {
					m, f := atDeque(c, 0, top, top+uint64(many+1)), frame.Begin(api.OpSteal, 0, 77)
					for range ahead {
						m, f = steal.Step(c, m, f)
					}
					m[topAt(c, 0)]++
					want, over := slices.Clone(m), api.Frame{Op: api.OpSteal, Res: api.ResAbort}
					if ahead == 0 { // it sees what is left alone
						over.Res = api.ResEmpty
						if many > 0 {
							want[topAt(c, 0)]++
							over.Res, over.Val = api.ResOk, m[slotAt(c, 0, top+1)]
						}
					}
					if end, f, _ := alone(t, c, m, f); f != over || !slices.Equal(end, want) {
						t.Fatalf("%+v, top %d, with %d, turned ahead of step %d: %+v, %v, want %+v, %v", c, top, many+1, ahead, f, end, over, want)
					}
				}
			}
		}
	}
}

func TestExample(t *testing.T) { // the chapter's example
	c := api.Conf{W: 1, D: 2, I: 1}
	m := make(api.Mem, 13)
	end, f, pcs := alone(t, c, m, frame.Begin(api.OpSteal, 0, 0))
	if want := (api.Frame{Op: api.OpSteal, Res: api.ResEmpty}); len(pcs) != 2 || f != want || !slices.Equal(end, m) {
		t.Errorf("%v, %+v, %v", pcs, f, end)
	}
}

// shape is a layout, with cells and a call, of which some go on.
type shape struct {
	c api.Conf
	n int
	f api.Frame
}

// shapes are all kinds of steps, and of calls that do not go on.
func shapes() []shape {
	var out []shape
	for _, c := range edges() {
		n := size(c)
		for pc := range 5 {
			for _, y := range []uint64{4, 5, 6} {
				out = append(out, shape{c, n, api.Frame{Op: api.OpSteal, Pc: pc, Who: c.W - 1, Val: 9, X: 5, Y: y}})
			}
		}
		for _, off := range []int{n - 1, n + 1, 0} {
			out = append(out, shape{c, off, api.Frame{Op: api.OpSteal}})
		}
		out = append(out, shape{c, n, full(api.OpPush, 0, 0, 0)}, shape{c, n, full(api.OpSteal, 0, c.W, 0)}, shape{c, n, full(api.OpSteal, 0, 0, 1)})
	}
	return append(out, shape{api.Conf{}, 0, api.Frame{Op: api.OpSteal}}, shape{api.Conf{}, 18, api.Frame{Op: api.OpSteal}})
}

// cellsOf are filled cells, where each deque has one number, with more memory behind their end.
func (s shape) cellsOf(behind int) api.Mem {
	m := append(make(api.Mem, 0, s.n+behind), filled(s.n)...)
	if s.n == size(s.c) && s.c.W > 0 {
		for w := range s.c.W {
			m[topAt(s.c, w)], m[bottomAt(s.c, w)] = 5, 6
		}
	}
	return m
}

func TestHandedInStays(t *testing.T) { // R3: also what lies behind the end
	for _, s := range shapes() {
		m := s.cellsOf(4)
		whole := slices.Clone(m[:cap(m)])
		steal.Step(s.c, m, s.f)
		steal.Some(s.c, m, s.f.Who)
		if !slices.Equal(m[:cap(m)], whole) {
			t.Fatalf("%+v: %v is now %v", s, whole, m[:cap(m)])
		}
	}
}

func TestAnswerIsTheCallersOwn(t *testing.T) { // R3: neither changes the other, not behind its end either
	const mine, other = 4321, 1234
	spoil := func(l []uint64, n uint64) {
		for i := range l[:cap(l)] {
			l[:cap(l)][i] = n
		}
	}
	for _, s := range shapes() {
		for _, behind := range []int{0, 1, 5} {
			m := s.cellsOf(behind)
			end, _ := steal.Step(s.c, m, s.f)
			want := slices.Clone(end)
			spoil(m, other)
			if !slices.Equal(end, want) {
				t.Fatalf("%+v: what was handed in changes the answer", s)
			}
			spoil(end, mine)
			_ = append(end, mine)
			if slices.Contains(m[:cap(m)], mine) {
				t.Fatalf("%+v: the answer changes what was handed in", s)
			}
		}
	}
}

func TestAnswersShareNothing(t *testing.T) { // R3, R5: and the same is answered again
	for _, s := range shapes() {
		m := s.cellsOf(0)
		one, f := steal.Step(s.c, m, s.f)
		two, g := steal.Step(s.c, m, s.f)
		if !slices.Equal(one, two) || f != g || steal.Some(s.c, m, 0) != steal.Some(s.c, m, 0) {
			t.Fatalf("%+v: another answer the second time", s)
		}
		want := slices.Clone(two)
		clear(one[:cap(one)])
		if !slices.Equal(two, want) {
			t.Fatalf("%+v: two answers share numbers", s)
		}
	}
}

func TestNilIsAsGoodAsEmpty(t *testing.T) { // R6
	for _, c := range append(edges(), wrong()...) {
		for _, f := range []api.Frame{{Op: api.OpSteal}, full(api.OpSteal, 1, 0, api.ResNone)} {
			one, a := steal.Step(c, nil, f)
			two, b := steal.Step(c, api.Mem{}, f)
			if len(one) != 0 || len(two) != 0 || a != f || b != f {
				t.Fatalf("%+v, %+v: %v, %+v of nil; %v, %+v of no cells", c, f, one, a, two, b)
			}
		}
	}
}
