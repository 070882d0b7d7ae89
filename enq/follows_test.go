package enq_test

import (
	"slices"
	"testing"

	"poacher/api"
	"poacher/enq"
	"poacher/frame"
)

// alone goes on with f till it is over, and tells behind which steps that is.
func alone(t *testing.T, c api.Conf, m api.Mem, f api.Frame) (api.Mem, api.Frame, []int) {
	t.Helper()
	var pcs []int
	for !frame.Over(f) {
		if len(pcs) == 5 || !enq.Goes(c, m, f, api.OpEnq) {
			t.Fatalf("%+v is not over behind %v, or does not go on", f, pcs)
		}
		pcs = append(pcs, f.Pc)
		m, f = enq.Step(c, m, f)
	}
	return m, f, pcs
}

// holding are filled cells of an injector that has many numbers from place head on: their slots have them, the others are free.
func holding(c api.Conf, head uint64, many int) api.Mem {
	m := filled(size(c))
	m[headAt], m[tailAt] = head, head+uint64(many)
	for i := range c.I {
		x := head + uint64(i)
		m[seqAt(c, x)] = free(c, x)
		if i < many {
			m[seqAt(c, x)]++
		}
	}
	return m
}

// taken are the cells behind somebody who took the first number, and what that was.
func taken(c api.Conf, m api.Mem) (api.Mem, uint64) {
	out := slices.Clone(m)
	x := m[headAt]
	out[headAt]++
	out[seqAt(c, x)] = free(c, x) + 2
	return out, m[valAt(c, x)]
}

// around tells whether places may go around 2^64: a greater injector's slots would not be free for those behind it.
func around(c api.Conf) bool { return c.I <= 2 }

// heads are those from which all of an injector may be used.
func heads(c api.Conf) []uint64 {
	i := uint64(c.I)
	out := []uint64{0, 1, 2, i - 1, i, i + 1, 2*i - 1, 5 * i, 1<<32 - 1, 1<<63 - 2*i, 1<<63 - i, 1<<63 - 1, 1 << 63, 1<<63 + 1, most - 3*i}
	if around(c) {
		out = append(out, most-i, most-1, most)
	}
	return out
}

// holds asks that there are so many, and that they are these, from the head on.
func holds(t *testing.T, c api.Conf, m api.Mem, want []uint64) {
	t.Helper()
	long(t, c, m, len(want))
	for i, n := range want {
		x := m[headAt] + uint64(i)
		if m[valAt(c, x)] != n || m[seqAt(c, x)] != free(c, x)+1 {
			t.Fatalf("%+v: place %d of %v, want %v", c, x, m, want)
		}
	}
}

func TestAloneWithRoom(t *testing.T) { // P11.4: of each size, from heads and tails other than 0: five steps, and one more
	for _, c := range rooms() {
		for _, head := range heads(c) {
			for many := range c.I {
				m, tail := holding(c, head, many), head+uint64(many)
				want := slices.Clone(m)
				want[tailAt] = tail + 1
				want[valAt(c, tail)] = 77
				want[seqAt(c, tail)]++
				long(t, c, m, many)
				end, f, pcs := alone(t, c, m, frame.Begin(api.OpEnq, 3, 77))
				if over := (api.Frame{Op: api.OpEnq, Who: 3, Val: 77, Res: api.ResOk}); f != over || !slices.Equal(end, want) || !slices.Equal(pcs, []int{0, 1, 2, 3, 4}) {
					t.Fatalf("%+v, head %d, with %d: %+v behind %v, %v, want %v", c, head, many, f, pcs, end, want)
				}
				long(t, c, end, many+1)
			}
		}
	}
}

func TestAloneAtEachPlace(t *testing.T) { // P11.4: the tail's place is all that is asked: also around 2^64, of sizes that this is no multiple of
	for _, c := range rooms() {
		for _, x := range places(c) {
			m := atPlace(c, x, free(c, x), x)
			want := slices.Clone(m)
			want[tailAt], want[valAt(c, x)], want[seqAt(c, x)] = x+1, 7, free(c, x)+1
			end, f, pcs := alone(t, c, m, frame.Begin(api.OpEnq, 0, 7))
			if over := (api.Frame{Op: api.OpEnq, Val: 7, Res: api.ResOk}); f != over || len(pcs) != 5 || !slices.Equal(end, want) {
				t.Fatalf("%+v, place %d: %+v behind %v", c, x, f, pcs)
			}
			if enq.Length(c, end) != enq.Length(c, m)+1 {
				t.Fatalf("%+v, place %d: %d became %d", c, x, enq.Length(c, m), enq.Length(c, end))
			}
		}
	}
}

func TestAloneWithoutRoom(t *testing.T) { // P11.4: two steps, and nothing changed; also if the last number is not there yet, or the first one is at hand
	for _, c := range rooms() {
		for _, head := range heads(c) {
			all := []api.Mem{holding(c, head, c.I)}
			coming := holding(c, head, c.I)
			for i := range c.I {
				coming[seqAt(c, uint64(i))]--
			}
			going := holding(c, head, c.I)
			going[headAt]++
			for _, m := range append(all, coming, going) {
				end, f, pcs := alone(t, c, m, frame.Begin(api.OpEnq, 3, 77))
				if over := (api.Frame{Op: api.OpEnq, Who: 3, Val: 77, Res: api.ResFull}); f != over || !slices.Equal(end, m) || !slices.Equal(pcs, []int{0, 1}) {
					t.Fatalf("%+v, head %d: %+v behind %v", c, head, f, pcs)
				}
			}
		}
	}
}

func TestRoundsBehindRounds(t *testing.T) { // P11.4: filled, and one more; one taken, and one more put in, round by round
	for _, c := range rooms() {
		for _, head := range heads(c) {
			m := holding(c, head, 0)
			var l []uint64
			put := func(val uint64) {
				begun := frame.Begin(api.OpEnq, 1, val)
				end, f, _ := alone(t, c, m, begun)
				now, over := frame.Once(l, c.I, begun)
				if f != over {
					t.Fatalf("%+v, head %d, with %v: %+v, at once: %+v", c, head, l, f, over)
				}
				m, l = end, now
				holds(t, c, m, l)
			}
			for i := range c.I + 1 {
				put(uint64(100 + i))
			}
			if around(c) || head <= most-uint64(10*c.I) {
				for i := range 3*c.I + 1 {
					var first uint64
					if m, first = taken(c, m); first != l[0] {
						t.Fatalf("%+v: %d taken, of %v", c, first, l)
					}
					l = l[1:]
					put(uint64(200 + i))
					put(uint64(300 + i))
				}
			}
		}
	}
}

func TestTakenAheadOfAStep(t *testing.T) { // P11.4: of a full injector: room is seen at step 1 at the latest
	for _, c := range rooms() {
		for _, head := range heads(c) {
			if !around(c) && head > most-uint64(3*c.I) {
				continue
			}
			for ahead := range 2 {
				m, f := holding(c, head, c.I), frame.Begin(api.OpEnq, 3, 77)
				for range ahead {
					m, f = enq.Step(c, m, f)
				}
				m, _ = taken(c, m)
				if end, f, _ := alone(t, c, m, f); f.Res != api.ResOk || end[tailAt] != head+uint64(c.I)+1 {
					t.Fatalf("%+v, head %d, taken ahead of step %d: %+v, %v", c, head, ahead, f, end)
				}
			}
		}
	}
}

func TestExample(t *testing.T) { // the chapter's example
	c := api.Conf{W: 1, D: 1, I: 1}
	m := make(api.Mem, 12)
	m, f, pcs := alone(t, c, m, frame.Begin(api.OpEnq, 0, 7))
	if want := (api.Frame{Op: api.OpEnq, Val: 7, Res: api.ResOk}); len(pcs) != 5 || f != want || !slices.Equal(m, api.Mem{5: 1, 6: 1, 7: 7, 11: 0}) {
		t.Errorf("%v, %+v, %v", pcs, f, m)
	}
	end, f, pcs := alone(t, c, m, frame.Begin(api.OpEnq, 0, 8))
	if want := (api.Frame{Op: api.OpEnq, Val: 8, Res: api.ResFull}); len(pcs) != 2 || f != want || !slices.Equal(end, m) {
		t.Errorf("%v, %+v, %v", pcs, f, end)
	}
}

// shape is a layout, with cells and a call, of which some go on.
type shape struct {
	c api.Conf
	n int
	f api.Frame
}

// shapes are all kinds of steps, and of calls that do not go on.
func shapes() []shape {
	var out []shape
	for _, c := range edges() {
		n := size(c)
		for pc := range 6 {
			for _, x := range []uint64{5, 6, 5 + uint64(c.I)} {
				out = append(out, shape{c, n, api.Frame{Op: api.OpEnq, Pc: pc, Who: c.W - 1, Val: 9, X: x, Y: 6}})
			}
		}
		for _, off := range []int{n - 1, n + 1, 0} {
			out = append(out, shape{c, off, api.Frame{Op: api.OpEnq}})
		}
		out = append(out, shape{c, n, full(api.OpDeq, 0, 0)}, shape{c, n, full(api.OpEnq, -1, 0)}, shape{c, n, full(api.OpEnq, 0, 1)})
	}
	return append(out, shape{api.Conf{}, 0, api.Frame{Op: api.OpEnq}}, shape{api.Conf{}, 16, api.Frame{Op: api.OpEnq}})
}

// cellsOf are cells where place 5 comes next, and is free, with more memory behind their end.
func (s shape) cellsOf(behind int) api.Mem {
	m := filled(s.n)
	if s.c.I > 0 && s.n == size(s.c) {
		m = atPlace(s.c, 5, free(s.c, 5), 5)
	}
	return append(make(api.Mem, 0, s.n+behind), m...)
}

func TestHandedInStays(t *testing.T) { // R3: also what lies behind the end
	for _, s := range shapes() {
		m := s.cellsOf(4)
		whole := slices.Clone(m[:cap(m)])
		enq.Goes(s.c, m, s.f, s.f.Op)
		enq.Step(s.c, m, s.f)
		enq.Length(s.c, m)
		if !slices.Equal(m[:cap(m)], whole) {
			t.Fatalf("%+v: %v is now %v", s, whole, m[:cap(m)])
		}
	}
}

func TestAnswerIsTheCallersOwn(t *testing.T) { // R3: neither changes the other, not behind its end either
	const mine, other = 4321, 1234
	spoil := func(l []uint64, n uint64) {
		for i := range l[:cap(l)] {
			l[:cap(l)][i] = n
		}
	}
	for _, s := range shapes() {
		for _, behind := range []int{0, 1, 5} {
			m := s.cellsOf(behind)
			end, _ := enq.Step(s.c, m, s.f)
			want := slices.Clone(end)
			spoil(m, other)
			if !slices.Equal(end, want) {
				t.Fatalf("%+v: what was handed in changes the answer", s)
			}
			spoil(end, mine)
			_ = append(end, mine)
			if slices.Contains(m[:cap(m)], mine) {
				t.Fatalf("%+v: the answer changes what was handed in", s)
			}
		}
	}
}

func TestAnswersShareNothing(t *testing.T) { // R3, R5: and the same is answered again
	for _, s := range shapes() {
		m := s.cellsOf(0)
		one, f := enq.Step(s.c, m, s.f)
		two, g := enq.Step(s.c, m, s.f)
		if !slices.Equal(one, two) || f != g || enq.Length(s.c, m) != enq.Length(s.c, m) || enq.Goes(s.c, m, s.f, 3) != enq.Goes(s.c, m, s.f, 3) {
			t.Fatalf("%+v: another answer the second time", s)
		}
		want := slices.Clone(two)
		clear(one[:cap(one)])
		if !slices.Equal(two, want) {
			t.Fatalf("%+v: two answers share numbers", s)
		}
	}
}

func TestNilIsAsGoodAsEmpty(t *testing.T) { // R6
	for _, c := range append(edges(), wrong()...) {
		for _, f := range []api.Frame{{Op: api.OpEnq}, full(api.OpEnq, 1, api.ResNone)} {
			one, a := enq.Step(c, nil, f)
			two, b := enq.Step(c, api.Mem{}, f)
			if len(one) != 0 || len(two) != 0 || a != f || b != f {
				t.Fatalf("%+v, %+v: %v, %+v of nil; %v, %+v of no cells", c, f, one, a, two, b)
			}
			goesAs(t, c, nil, f, api.OpEnq, false)
			goesAs(t, c, api.Mem{}, f, api.OpEnq, false)
			long(t, c, nil, -1)
			long(t, c, api.Mem{}, -1)
		}
	}
}
