package push_test

import (
	"slices"
	"testing"

	"poacher/api"
	"poacher/frame"
	"poacher/push"
)

// alone goes on with f till it is over, and tells how many steps that took.
func alone(t *testing.T, c api.Conf, m api.Mem, f api.Frame) (api.Mem, api.Frame, int) {
	t.Helper()
	n := 0
	for ; !frame.Over(f); n++ {
		if n == 4 {
			t.Fatalf("%+v is not over behind four steps", f)
		}
		if f.Pc != n || !push.Goes(c, m, f, api.OpPush, 4) {
			t.Fatalf("%+v is not at step %d, or does not go on", f, n)
		}
		m, f = push.Step(c, m, f)
	}
	return m, f, n
}

// apart asks that nothing but the deque of worker w differs.
func apart(t *testing.T, c api.Conf, w int, was, is api.Mem) {
	t.Helper()
	from, to := begins(c, w), begins(c, w+1)
	if len(was) != len(is) || !slices.Equal(was[:from], is[:from]) || !slices.Equal(was[to:], is[to:]) {
		t.Fatalf("worker %d at %+v: %v became %v", w, c, was, is)
	}
	if was[from+2] != is[from+2] || was[from] != is[from] {
		t.Fatalf("worker %d at %+v: its top or its park cell changed, %v became %v", w, c, was, is)
	}
}

func TestAloneIsAtOnce(t *testing.T) { // P7.4: each deque that has a list
	for _, c := range edges() {
		for _, w := range workers(c) {
			for _, top := range tops() {
				for many := range c.D + 1 {
					m := atDeque(c, w, top, top+uint64(many))
					was, is := push.List(c, m, w)
					if !is || len(was) != many {
						t.Fatalf("worker %d at %+v, top %d: %v, %v, want %d", w, c, top, was, is, many)
					}
					want, over := frame.Once(was, c.D, frame.Begin(api.OpPush, w, 77))
					end, f, n := alone(t, c, m, frame.Begin(api.OpPush, w, 77))
					got, is := push.List(c, end, w)
					if !is || !slices.Equal(got, want) || f != over {
						t.Fatalf("worker %d at %+v, top %d: %v, %+v, at once: %v, %+v", w, c, top, got, f, want, over)
					}
					if steps := map[bool]int{true: 2, false: 4}[many == c.D]; n != steps {
						t.Fatalf("worker %d at %+v, with %d: over behind %d steps, want %d", w, c, many, n, steps)
					}
					apart(t, c, w, m, end)
				}
			}
		}
	}
}

func TestAloneWhereThereIsNoList(t *testing.T) { // P7.2: more than there is room for, or less than 0, is full
	for _, c := range edges() {
		for _, gap := range gaps(c) {
			if gap <= uint64(c.D) {
				continue
			}
			for _, top := range tops() {
				m := atDeque(c, 0, top, top+gap)
				end, f, n := alone(t, c, m, frame.Begin(api.OpPush, 0, 77))
				if want := (api.Frame{Val: 77, Res: api.ResFull}); n != 2 || f != want || !slices.Equal(end, m) {
					t.Fatalf("%+v, top %d, %d behind: %+v behind %d steps", c, top, gap, f, n)
				}
			}
		}
	}
}

func TestPushesFillADeque(t *testing.T) { // P7.4: each worker's own, one behind another
	for _, c := range edges() {
		m := make(api.Mem, size(c))
		for i := range c.D + 2 {
			for w := range c.W {
				val := uint64(100*w + i)
				var f api.Frame
				m, f, _ = alone(t, c, m, frame.Begin(api.OpPush, w, val))
				if (f.Res == api.ResOk) != (i < c.D) || f.Val != val {
					t.Fatalf("push %d of worker %d at %+v: %+v", i, w, c, f)
				}
			}
		}
		for w := range c.W {
			got, is := push.List(c, m, w)
			if !is || len(got) != c.D {
				t.Fatalf("worker %d at %+v has %v, %v", w, c, got, is)
			}
			for i, n := range got {
				if n != uint64(100*w+i) {
					t.Fatalf("worker %d at %+v has %v", w, c, got)
				}
			}
		}
	}
}

func TestListIsTheSameUntilTheLastStep(t *testing.T) { // P7.2: what is pushed is there with the last step, and not ahead
	for _, c := range edges() {
		for _, top := range tops() {
			m := atDeque(c, 0, top, top+uint64(c.D)-1)
			was, _ := push.List(c, m, 0)
			f := frame.Begin(api.OpPush, 0, 77)
			for step := range 4 {
				m, f = push.Step(c, m, f)
				want := was
				if step == 3 {
					want = slices.Concat(was, []uint64{77})
				}
				if got, is := push.List(c, m, 0); !is || !slices.Equal(got, want) {
					t.Fatalf("%+v, top %d, behind step %d: %v, want %v", c, top, step, got, want)
				}
			}
		}
	}
}

func TestExample(t *testing.T) { // the chapter's example
	c := api.Conf{W: 1, D: 1, I: 1}
	m := api.Mem{0, 0, 0, 0, 0, 0, 0, 0, 0, 1, 0, 5}
	end, f, n := alone(t, c, m, frame.Begin(api.OpPush, 0, 7))
	if want := (api.Frame{Val: 7, Res: api.ResFull}); n != 2 || f != want || !slices.Equal(end, m) {
		t.Errorf("%d steps, %+v, %v", n, f, end)
	}
}

// shape is a layout, with cells and a call, of which some go on.
type shape struct {
	c api.Conf
	n int
	f api.Frame
}

// shapes are all kinds of steps, and of calls that do not go on.
func shapes() []shape {
	var out []shape
	for _, c := range edges() {
		n := size(c)
		for pc := range 5 {
			out = append(out, shape{c, n, api.Frame{Pc: pc}}, shape{c, n, full(api.OpPush, pc, c.W-1, api.ResNone)})
		}
		out = append(out, shape{c, n - 1, api.Frame{}}, shape{c, n + 1, api.Frame{}}, shape{c, 0, api.Frame{}})
		out = append(out, shape{c, n, full(api.OpPop, 0, 0, 0)}, shape{c, n, full(api.OpPush, 0, c.W, 0)}, shape{c, n, full(api.OpPush, 0, 0, 1)})
	}
	return append(out, shape{api.Conf{}, 0, api.Frame{}}, shape{api.Conf{}, 18, api.Frame{}})
}

// cellsOf are filled cells, where each deque has one number, with more memory behind their end.
func (s shape) cellsOf(behind int) api.Mem {
	m := append(make(api.Mem, 0, s.n+behind), filled(s.n)...)
	if s.n == size(s.c) && s.c.W > 0 {
		for w := range s.c.W {
			m[topAt(s.c, w)], m[bottomAt(s.c, w)] = 5, 6
		}
	}
	return m
}

func TestHandedInStays(t *testing.T) { // R3: also what lies behind the end
	for _, s := range shapes() {
		m := s.cellsOf(4)
		whole := slices.Clone(m[:cap(m)])
		push.Goes(s.c, m, s.f, api.OpPush, 4)
		push.Step(s.c, m, s.f)
		push.List(s.c, m, s.f.Who)
		if !slices.Equal(m[:cap(m)], whole) {
			t.Fatalf("%+v: %v is now %v", s, whole, m[:cap(m)])
		}
	}
}

func TestAnswersAreTheCallersOwn(t *testing.T) { // R3: neither changes the other, not behind its end either
	const mine, other = 4321, 1234
	spoil := func(l []uint64, n uint64) {
		for i := range l[:cap(l)] {
			l[:cap(l)][i] = n
		}
	}
	for _, s := range shapes() {
		for _, behind := range []int{0, 1, 5} {
			m := s.cellsOf(behind)
			end, _ := push.Step(s.c, m, s.f)
			l, _ := push.List(s.c, m, s.f.Who)
			wantEnd, wantList := slices.Clone(end), slices.Clone(l)
			spoil(m, other)
			if !slices.Equal(end, wantEnd) || !slices.Equal(l, wantList) {
				t.Fatalf("%+v: what was handed in changes the answer", s)
			}
			spoil(end, mine)
			spoil(l, mine)
			_, _ = append(end, mine), append(l, mine)
			if slices.Contains(m[:cap(m)], mine) {
				t.Fatalf("%+v: the answer changes what was handed in", s)
			}
		}
	}
}

func TestAnswersShareNothing(t *testing.T) { // R3, R5: and the same is answered again
	for _, s := range shapes() {
		m := s.cellsOf(0)
		one, f := push.Step(s.c, m, s.f)
		two, g := push.Step(s.c, m, s.f)
		l, a := push.List(s.c, m, s.f.Who)
		k, b := push.List(s.c, m, s.f.Who)
		if !slices.Equal(one, two) || f != g || !slices.Equal(l, k) || a != b {
			t.Fatalf("%+v: another answer the second time", s)
		}
		wantTwo, wantK := slices.Clone(two), slices.Clone(k)
		clear(one[:cap(one)])
		clear(l[:cap(l)])
		if !slices.Equal(two, wantTwo) || !slices.Equal(k, wantK) {
			t.Fatalf("%+v: two answers share numbers", s)
		}
	}
}

func TestNilIsAsGoodAsEmpty(t *testing.T) { // R6
	for _, c := range append(edges(), wrong()...) {
		for _, f := range []api.Frame{{}, full(api.OpPush, 1, 0, api.ResNone)} {
			one, a := push.Step(c, nil, f)
			two, b := push.Step(c, api.Mem{}, f)
			if len(one) != 0 || len(two) != 0 || a != f || b != f {
				t.Fatalf("%+v, %+v: %v, %+v of nil; %v, %+v of no cells", c, f, one, a, two, b)
			}
		}
	}
}
