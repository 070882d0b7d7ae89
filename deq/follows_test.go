package deq_test

import (
	"slices"
	"testing"

	"poacher/api"
	"poacher/deq"
	"poacher/enq"
	"poacher/frame"
)

// next is a call's next step, whichever of the two it is.
func next(c api.Conf, m api.Mem, f api.Frame) (api.Mem, api.Frame) {
	if f.Op == api.OpEnq {
		return enq.Step(c, m, f)
	}
	return deq.Step(c, m, f)
}

// alone goes on with f till it is over, and tells behind which steps that is.
func alone(t *testing.T, c api.Conf, m api.Mem, f api.Frame) (api.Mem, api.Frame, []int) {
	t.Helper()
	var pcs []int
	for !frame.Over(f) {
		if len(pcs) == 5 || !enq.Goes(c, m, f, f.Op) {
			t.Fatalf("%+v is not over behind %v, or does not go on", f, pcs)
		}
		pcs = append(pcs, f.Pc)
		m, f = next(c, m, f)
	}
	return m, f, pcs
}

// taken are the cells behind somebody who took the first number.
func taken(c api.Conf, m api.Mem) api.Mem {
	out := slices.Clone(m)
	x := m[headAt]
	out[headAt]++
	out[seqAt(c, x)] = free(c, x) + 2
	return out
}

// put are the cells behind somebody who put that number in.
func put(c api.Conf, m api.Mem, val uint64) api.Mem {
	out := slices.Clone(m)
	x := m[tailAt]
	out[tailAt]++
	out[valAt(c, x)] = val
	out[seqAt(c, x)] = free(c, x) + 1
	return out
}

// low are the heads whose places lie far below 2^63.
func low(c api.Conf) []uint64 {
	return slices.DeleteFunc(heads(c), func(head uint64) bool { return head > 1<<62 })
}

// onward are all heads behind which so many places do not go around 2^64: of sizes 1 and 2 those, too, that do, for twice the round goes around there as well.
func onward(c api.Conf, many int) []uint64 {
	out := slices.DeleteFunc(heads(c), func(head uint64) bool { return head > most-uint64(many) })
	if c.I <= 2 {
		out = append(out, most-2, most-1, most)
	}
	return out
}

// atOnce asks that a call, alone, is what Once does at the injector's list: the call, and the list behind it. It is over behind so many steps.
func atOnce(t *testing.T, c api.Conf, m api.Mem, f api.Frame) (api.Mem, api.Frame) {
	t.Helper()
	l, is := deq.List(c, m)
	if !is {
		t.Fatalf("%+v: no list of %v", c, m)
	}
	behind, over := frame.Once(l, c.I, f)
	end, g, pcs := alone(t, c, m, f)
	if g != over {
		t.Fatalf("%+v, %v, %+v became %+v, at once: %+v", c, m, f, g, over)
	}
	lists(t, c, end, behind)
	if steps := map[bool]int{true: 5, false: 2}[g.Res == api.ResOk]; len(pcs) != steps {
		t.Fatalf("%+v, %+v: behind %v", c, g, pcs)
	}
	return end, g
}

func TestAloneIsWhatOnceDoes(t *testing.T) { // P12.3: of each size, from heads and tails other than 0: of an empty list, of one that is full, and of those between
	for _, c := range rooms() {
		for _, head := range onward(c, c.I+1) {
			for many := range c.I + 1 {
				m := holding(c, head, many)
				for _, val := range vals() {
					end, f := atOnce(t, c, m, frame.Begin(api.OpEnq, 3, val))
					want, over := m, api.Frame{Op: api.OpEnq, Who: 3, Val: val, Res: api.ResFull}
					if many < c.I {
						want, over.Res = put(c, m, val), api.ResOk
					}
					if f != over || !slices.Equal(end, want) {
						t.Fatalf("%+v, %v: %+v, %v, want %v", c, m, f, end, want)
					}

					end, f = atOnce(t, c, m, frame.Begin(api.OpDeq, 4, val))
					want, over = m, api.Frame{Op: api.OpDeq, Who: 4, Res: api.ResEmpty}
					if many > 0 {
						want, over.Res, over.Val = taken(c, m), api.ResOk, m[valAt(c, head)]
					}
					if f != over || !slices.Equal(end, want) {
						t.Fatalf("%+v, %v: %+v, %v, want %v", c, m, f, end, want)
					}
				}
			}
		}
	}
}

func TestTakenInTheOrderTheyWerePutIn(t *testing.T) { // P12.3: filled, and one more; emptied, and one more; round by round
	for _, c := range rooms() {
		for _, head := range onward(c, 4*c.I) {
			m, val := holding(c, head, 0), uint64(100)
			for range 4 {
				var in, out []uint64
				for range c.I + 1 {
					end, f := atOnce(t, c, m, frame.Begin(api.OpEnq, 1, val))
					if f.Res == api.ResOk {
						in = append(in, val)
					}
					m, val = end, val+1
				}
				for range c.I + 1 {
					end, f := atOnce(t, c, m, frame.Begin(api.OpDeq, 2, 9))
					if f.Res == api.ResOk {
						out = append(out, f.Val)
					}
					m = end
				}
				if len(in) != c.I || !slices.Equal(in, out) {
					t.Fatalf("%+v, head %d: %v were put in, and %v taken out", c, head, in, out)
				}
			}
		}
	}
}

func TestCallsOfBothKinds(t *testing.T) { // P12.3: all orders of eight calls, each of which puts in, or takes out
	for _, i := range []int{1, 2, 3, 5} {
		c := api.Conf{W: 1, D: 1, I: i}
		for _, head := range low(c) {
			for calls := range 1 << 8 {
				m, val := holding(c, head, int(head)%(i+1)), uint64(100)
				for n := range 8 {
					op := api.OpEnq
					if calls>>n&1 == 1 {
						op = api.OpDeq
					}
					m, _ = atOnce(t, c, m, frame.Begin(op, n, val))
					val++
				}
			}
		}
	}
}

func TestPutInAheadOfAStep(t *testing.T) { // P12.3: into an empty injector: it is seen at step 1 at the latest
	for _, c := range rooms() {
		for _, head := range onward(c, c.I) {
			for ahead := range 2 {
				m, f := holding(c, head, 0), frame.Begin(api.OpDeq, 3, 9)
				for range ahead {
					m, f = deq.Step(c, m, f)
				}
				m = put(c, m, 77)
				end, f, _ := alone(t, c, m, f)
				if over := (api.Frame{Op: api.OpDeq, Who: 3, Val: 77, Res: api.ResOk}); f != over || !slices.Equal(end, taken(c, m)) {
					t.Fatalf("%+v, head %d, put in ahead of step %d: %+v, %v", c, head, ahead, f, end)
				}
			}
		}
	}
}

func TestExamples(t *testing.T) { // the chapter's examples
	c := api.Conf{W: 1, D: 1, I: 1}
	m := make(api.Mem, 12)
	lists(t, c, m, nil)
	end, f, pcs := alone(t, c, m, frame.Begin(api.OpDeq, 0, 7))
	if want := (api.Frame{Op: api.OpDeq, Res: api.ResEmpty}); f != want || !slices.Equal(end, m) || len(pcs) != 2 {
		t.Errorf("%+v, %v, %v", f, end, pcs)
	}
	end, f, pcs = alone(t, c, api.Mem{5: 1, 6: 1, 7: 7, 11: 0}, frame.Begin(api.OpDeq, 0, 9))
	if want := (api.Frame{Op: api.OpDeq, Val: 7, Res: api.ResOk}); f != want || !slices.Equal(end, api.Mem{4: 1, 5: 1, 6: 2, 7: 7, 11: 0}) || len(pcs) != 5 {
		t.Errorf("%+v, %v, %v", f, end, pcs)
	}
}

// shape is a layout, with cells and a call, of which some go on, and some have a list.
type shape struct {
	c api.Conf
	n int
	f api.Frame
}

// shapes are all kinds of steps, and of calls that do not go on.
func shapes() []shape {
	var out []shape
	for _, c := range edges() {
		n := size(c)
		for pc := range 6 {
			for _, x := range []uint64{5, 6, 5 + uint64(c.I)} {
				out = append(out, shape{c, n, api.Frame{Op: api.OpDeq, Pc: pc, Who: c.W - 1, Val: 9, X: x, Y: 6}})
			}
		}
		for _, off := range []int{n - 1, n + 1, 0} {
			out = append(out, shape{c, off, api.Frame{Op: api.OpDeq}})
		}
		out = append(out, shape{c, n, full(api.OpEnq, 0, 0)}, shape{c, n, full(api.OpDeq, -1, 0)}, shape{c, n, full(api.OpDeq, 0, 1)})
	}
	return append(out, shape{api.Conf{}, 0, api.Frame{Op: api.OpDeq}}, shape{api.Conf{}, 16, api.Frame{Op: api.OpDeq}})
}

// cellsOf are cells of a full injector, from place 5 on, with more memory behind their end.
func (s shape) cellsOf(behind int) api.Mem {
	m := filled(s.n)
	if s.c.I > 0 && s.n == size(s.c) {
		m = holding(s.c, 5, s.c.I)
	}
	return append(make(api.Mem, 0, s.n+behind), m...)
}

func TestHandedInStays(t *testing.T) { // R3: also what lies behind the end
	for _, s := range shapes() {
		m := s.cellsOf(4)
		whole := slices.Clone(m[:cap(m)])
		deq.Step(s.c, m, s.f)
		deq.List(s.c, m)
		if !slices.Equal(m[:cap(m)], whole) {
			t.Fatalf("%+v: %v is now %v", s, whole, m[:cap(m)])
		}
	}
}

// spoil writes all over a list, also behind its end.
func spoil(l []uint64, n uint64) {
	for i := range l[:cap(l)] {
		l[:cap(l)][i] = n
	}
}

func TestAnswerIsTheCallersOwn(t *testing.T) { // R3: neither changes the other, not behind its end either
	const mine, other = 4321, 1234
	for _, s := range shapes() {
		for _, behind := range []int{0, 1, 5} {
			m := s.cellsOf(behind)
			end, _ := deq.Step(s.c, m, s.f)
			l, is := deq.List(s.c, m)
			if is && len(l) != s.c.I {
				t.Fatalf("%+v: %v", s, l)
			}
			want, held := slices.Clone(end), slices.Clone(l)
			spoil(m, other)
			if !slices.Equal(end, want) || !slices.Equal(l, held) {
				t.Fatalf("%+v: what was handed in changes the answer", s)
			}
			spoil(end, mine)
			spoil(l, mine)
			_, _ = append(end, mine), append(l, mine)
			if slices.Contains(m[:cap(m)], mine) {
				t.Fatalf("%+v: the answer changes what was handed in", s)
			}
		}
	}
}

func TestAnswersShareNothing(t *testing.T) { // R3, R5: and the same is answered again
	for _, s := range shapes() {
		m := s.cellsOf(0)
		one, f := deq.Step(s.c, m, s.f)
		two, g := deq.Step(s.c, m, s.f)
		l, is := deq.List(s.c, m)
		again, also := deq.List(s.c, m)
		if !slices.Equal(one, two) || f != g || !slices.Equal(l, again) || is != also {
			t.Fatalf("%+v: another answer the second time", s)
		}
		want, held := slices.Clone(two), slices.Clone(again)
		spoil(one, 0)
		spoil(l, 0)
		if !slices.Equal(two, want) || !slices.Equal(again, held) {
			t.Fatalf("%+v: two answers share numbers", s)
		}
	}
}

func TestNilIsAsGoodAsEmpty(t *testing.T) { // R6
	for _, c := range append(edges(), wrong()...) {
		for _, f := range []api.Frame{{Op: api.OpDeq}, full(api.OpDeq, 1, api.ResNone)} {
			one, a := deq.Step(c, nil, f)
			two, b := deq.Step(c, api.Mem{}, f)
			if len(one) != 0 || len(two) != 0 || a != f || b != f {
				t.Fatalf("%+v, %+v: %v, %+v of nil; %v, %+v of no cells", c, f, one, a, two, b)
			}
		}
		listsNothing(t, c, nil)
		listsNothing(t, c, api.Mem{})
	}
}
