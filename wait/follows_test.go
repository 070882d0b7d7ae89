package wait_test

import (
	"slices"
	"testing"

	"poacher/api"
	"poacher/cell"
	"poacher/frame"
	"poacher/lay"
	"poacher/wait"
	"poacher/word"
)

// begins is worker w's call, ahead of its first step.
func begins(w int) api.Frame { return frame.Begin(api.OpWait, w, 77) }

// parksAlone goes on with a call that begins, for three steps, and asks that it is parked behind the third one, and not ahead of it.
func parksAlone(t *testing.T, c api.Conf, m api.Mem, w int) (api.Mem, api.Frame) {
	t.Helper()
	f := begins(w)
	for n := range 3 {
		if wait.Parked(f) || f.Pc != n {
			t.Fatalf("%+v behind %d steps", f, n)
		}
		m, f = wait.Step(c, m, f)
	}
	if !wait.Parked(f) || !wait.Waits(c, m, w) {
		t.Fatalf("%+v of %v is not parked behind three steps, or its bit is not set", f, m)
	}
	return m, f
}

// staysParked asks that so many steps change no cell, and that the call is parked behind each.
func staysParked(t *testing.T, c api.Conf, m api.Mem, f api.Frame, steps int) api.Frame {
	t.Helper()
	for range steps {
		end, g := wait.Step(c, m, f)
		if !slices.Equal(end, m) || !wait.Parked(g) || g.X != f.X || g.Val != f.Val || g.Y != 0 {
			t.Fatalf("%+v of %v became %+v of %v", f, m, g, end)
		}
		f = g
	}
	return f
}

// leaves asks that one who is parked, and whose park cell is not 0, is over by two steps.
func leaves(t *testing.T, c api.Conf, m api.Mem, f api.Frame) api.Mem {
	t.Helper()
	want := slices.Clone(m)
	want[parkAt(c, f.Who)] = 0
	mid, g := wait.Step(c, m, f)
	if frame.Over(g) || wait.Parked(g) || !slices.Equal(mid, m) {
		t.Fatalf("%+v of %v became %+v of %v", f, m, g, mid)
	}
	end, g := wait.Step(c, mid, g)
	if g != over(f.Who, api.ResOk) || wait.Parked(g) || !slices.Equal(end, want) {
		t.Fatalf("%+v of %v became %+v of %v", f, m, g, end)
	}
	return end
}

func TestAloneItIsParked(t *testing.T) { // P14.3: from each mask, and epochs at the edges; its bit is set, and the epoch is what it was
	for _, c := range edges() {
		for _, w := range workers(c) {
			for _, e := range append(words(), edgeWords()...) {
				m := atEvent(c, w, e, 0)
				want := slices.Clone(m)
				want[eventAt] = withBit(e, w)
				end, f := parksAlone(t, c, m, w)
				if !slices.Equal(end, want) || f != (api.Frame{Op: api.OpWait, Pc: 3, Who: w, Val: 77, X: e, Y: e}) {
					t.Fatalf("%v became %v, %+v", m, end, f)
				}
				if epoch(end[eventAt]) != epoch(e) {
					t.Fatalf("epoch %d became %d", epoch(e), epoch(end[eventAt]))
				}
				staysParked(t, c, end, f, 3)
			}
		}
	}
}

func TestAloneFromAllMasks(t *testing.T) { // P14.3: each of eight workers, behind the greatest epoch but one
	c := api.Conf{W: 8, D: 1, I: 1}
	m := lay.New(c)
	for mask := range uint64(1 << 16) {
		m[eventAt] = (1<<48-2)*65536 + mask
		for w := range c.W {
			end, _ := parksAlone(t, c, m, w)
			if end[eventAt] != withBit(m[eventAt], w) {
				t.Fatalf("worker %d, mask %d: %d", w, mask, end[eventAt])
			}
		}
	}
}

func TestAloneAtEachNewPool(t *testing.T) { // P14.3: each layout, and each worker of it
	for _, c := range layouts() {
		for w := range c.W {
			m, f := parksAlone(t, c, lay.New(c), w)
			want := lay.New(c)
			want[eventAt] = bit(w)
			if !slices.Equal(m, want) {
				t.Fatalf("worker %d at %+v: %v", w, c, m)
			}
			f = staysParked(t, c, m, f, 2)
			m[parkAt(c, w)] = 1
			if end := leaves(t, c, m, f); !slices.Equal(end, want) {
				t.Fatalf("worker %d at %+v: %v", w, c, end)
			}
		}
	}
}

func TestItStaysParkedTillItsParkCellIsNot0(t *testing.T) { // P14.3: however many steps; by each number there
	for _, c := range edges() {
		for _, w := range workers(c) {
			for _, parked := range parks() {
				m, f := parksAlone(t, c, atEvent(c, w, 0x90000, 0), w)
				f = staysParked(t, c, m, f, 100)
				if parked == 0 {
					continue
				}
				m[parkAt(c, w)] = parked
				end := leaves(t, c, m, f)
				if end[parkAt(c, w)] != 0 || !wait.Waits(c, end, w) {
					t.Fatalf("worker %d at %+v: %v", w, c, end)
				}
			}
		}
	}
}

func TestOthersParkCellsAreNotItsOwn(t *testing.T) { // P14.3: it stays parked, whatever else changes
	for _, c := range edges() {
		for _, w := range workers(c) {
			m, f := parksAlone(t, c, lay.New(c), w)
			for i := range m {
				if i == parkAt(c, w) {
					continue
				}
				other := slices.Clone(m)
				other[i] = most
				staysParked(t, c, other, f, 3)
			}
			all := slices.Repeat(api.Mem{most}, len(m))
			all[parkAt(c, w)] = 0
			staysParked(t, c, all, f, 3)
		}
	}
}

func TestParkCellThatIsSetBeforehand(t *testing.T) { // P14.1, P14.3: it is parked all the same, and over by two more steps
	for _, c := range edges() {
		for _, w := range workers(c) {
			for _, parked := range parks()[1:] {
				m, f := parksAlone(t, c, atEvent(c, w, 0x90000, parked), w)
				leaves(t, c, m, f)
			}
		}
	}
}

func TestItWaitsAgain(t *testing.T) { // P14.3: one time behind another, each wake by one who does all at once
	for _, c := range edges() {
		for w := range c.W {
			m := lay.New(c)
			m[eventAt] = (1<<48 - 3) * 65536
			for n := range 6 {
				high := epoch(m[eventAt])
				var f api.Frame
				m, f = parksAlone(t, c, m, w)
				f = staysParked(t, c, m, f, 2)
				m = woken(c, m, w)
				if wait.Waits(c, m, w) || epoch(m[eventAt]) != (high+1)%(1<<48) {
					t.Fatalf("round %d: %v", n, m)
				}
				m = leaves(t, c, m, f)
			}
		}
	}
}

// woken are the cells behind somebody who wakes worker w: its bit is gone, there is one epoch more, and its park cell is 1.
func woken(c api.Conf, m api.Mem, w int) api.Mem {
	e := m[eventAt]
	return cell.Store(cell.Store(m, eventAt, word.Pack(epoch(e)+1, e-bit(w))), lay.Park(c, w), 1)
}

func TestAWakeAheadOfAStep(t *testing.T) { // P14.1, P14.3: between step 0 and the exchange it is seen by the epoch, and the call is over; behind that it stays parked
	for _, c := range edges() {
		for _, w := range workers(c) {
			for _, e := range append(words(), edgeWords()...) {
				for ahead := range 4 {
					m, f := atEvent(c, w, e, 0), begins(w)
					for range ahead {
						m, f = wait.Step(c, m, f)
					}
					m[eventAt] += 1 << 16
					want, call := slices.Clone(m), over(w, api.ResAbort)
					steps := []int{3, 1, 2, 1}[ahead]
					switch ahead {
					case 0:
						want[eventAt] = withBit(want[eventAt], w)
						call = api.Frame{Op: api.OpWait, Pc: 3, Who: w, Val: 77, X: m[eventAt], Y: m[eventAt]}
					case 3:
						call = api.Frame{Op: api.OpWait, Pc: 3, Who: w, Val: 77, X: e}
					}
					for range steps {
						m, f = wait.Step(c, m, f)
					}
					if f != call || !slices.Equal(m, want) {
						t.Fatalf("worker %d at %+v, event %d, turned ahead of step %d: %+v, %v, want %+v, %v", w, c, e, ahead, f, m, call, want)
					}
				}
			}
		}
	}
}

func TestAMaskThatTurnsAheadOfAStep(t *testing.T) { // P14.1, P14.3: another one's bit comes or goes: two steps more at most, and it is parked
	for _, c := range edges() {
		if c.W == 1 {
			continue
		}
		for _, w := range workers(c) {
			other := (w + 1) % c.W
			for _, e := range words() {
				for ahead := range 4 {
					m, f := atEvent(c, w, e, 0), begins(w)
					for range ahead {
						m, f = wait.Step(c, m, f)
					}
					m[eventAt] ^= bit(other)
					want := slices.Clone(m)
					want[eventAt] = withBit(want[eventAt], w)
					for range []int{3, 2, 3, 0}[ahead] {
						if wait.Parked(f) {
							t.Fatalf("%+v is parked too early", f)
						}
						m, f = wait.Step(c, m, f)
					}
					if !wait.Parked(f) || !slices.Equal(m, want) {
						t.Fatalf("worker %d at %+v, event %d, turned ahead of step %d: %+v, %v, want %v", w, c, e, ahead, f, m, want)
					}
				}
			}
		}
	}
}

func TestExample(t *testing.T) { // the chapter's example
	c := api.Conf{W: 1, D: 2, I: 1}
	m, f := lay.New(c), begins(0)
	for n := range 3 {
		if wait.Parked(f) {
			t.Fatalf("parked behind %d steps", n)
		}
		m, f = wait.Step(c, m, f)
	}
	if want := (api.Mem{0, 0, 1, 0, 0, 0, 0, 0, 0, 0, 0, 0, 0}); !wait.Parked(f) || !slices.Equal(m, want) {
		t.Errorf("%+v, %v", f, m)
	}
}

// shape is a layout, with cells and a call, of which some go on.
type shape struct {
	c api.Conf
	n int
	f api.Frame
}

// shapes are all kinds of steps, and of calls that do not go on.
func shapes() []shape {
	var out []shape
	for _, c := range edges() {
		n := size(c)
		for pc := -1; pc <= 5; pc++ {
			for _, x := range []uint64{0x90000, 0x90001, 0x80000} {
				out = append(out, shape{c, n, api.Frame{Op: api.OpWait, Pc: pc, Who: c.W - 1, Val: 9, X: x, Y: x}})
			}
		}
		for _, off := range []int{n - 1, n + 1, 0} {
			out = append(out, shape{c, off, api.Frame{Op: api.OpWait}})
		}
		out = append(out, shape{c, n, full(api.OpNote, 0, 0, 0)}, shape{c, n, full(api.OpWait, 0, c.W, 0)}, shape{c, n, full(api.OpWait, 0, 0, 1)})
	}
	return append(out, shape{api.Conf{}, 0, api.Frame{Op: api.OpWait}}, shape{api.Conf{}, 18, api.Frame{Op: api.OpWait}})
}

// cellsOf are filled cells, with an event of epoch 9, with more memory behind their end.
func (s shape) cellsOf(behind int) api.Mem {
	m := append(make(api.Mem, 0, s.n+behind), filled(s.n)...)
	if s.n > eventAt {
		m[eventAt] = 0x90000
	}
	return m
}

// whole is all memory of cells, also what lies behind their end.
func whole(m api.Mem) api.Mem { return m[:cap(m)] }

// spoil lays a number everywhere, also behind the end.
func spoil(m api.Mem, n uint64) {
	for i := range whole(m) {
		whole(m)[i] = n
	}
}

func TestHandedInStays(t *testing.T) { // R3: also what lies behind the end
	for _, s := range shapes() {
		m := s.cellsOf(4)
		was := slices.Clone(whole(m))
		wait.Step(s.c, m, s.f)
		wait.Waits(s.c, m, s.f.Who)
		wait.Parked(s.f)
		if !slices.Equal(whole(m), was) {
			t.Fatalf("%+v: %v is now %v", s, was, whole(m))
		}
	}
}

func TestAnswerIsTheCallersOwn(t *testing.T) { // R3: neither changes the other, not behind its end either
	const mine, other = 4321, 1234
	for _, s := range shapes() {
		for _, behind := range []int{0, 1, 5} {
			m := s.cellsOf(behind)
			end, _ := wait.Step(s.c, m, s.f)
			want := slices.Clone(end)
			spoil(m, other)
			if !slices.Equal(end, want) {
				t.Fatalf("%+v: what was handed in changes the answer", s)
			}
			spoil(end, mine)
			_ = append(end, mine)
			if slices.Contains(whole(m), mine) {
				t.Fatalf("%+v: the answer changes what was handed in", s)
			}
		}
	}
}

func TestAnswersShareNothing(t *testing.T) { // R3, R5: and the same is answered again
	for _, s := range shapes() {
		m := s.cellsOf(0)
		one, f := wait.Step(s.c, m, s.f)
		was := wait.Waits(s.c, m, s.f.Who)
		wait.Step(s.c, filled(s.n), s.f)
		two, g := wait.Step(s.c, m, s.f)
		if !slices.Equal(one, two) || f != g || wait.Waits(s.c, m, s.f.Who) != was || wait.Parked(f) != wait.Parked(g) {
			t.Fatalf("%+v: another answer the second time", s)
		}
		want := slices.Clone(two)
		spoil(one, 0)
		if !slices.Equal(two, want) {
			t.Fatalf("%+v: two answers share numbers", s)
		}
	}
}

func TestNilIsAsGoodAsEmpty(t *testing.T) { // R6
	for _, c := range append(edges(), wrong()...) {
		for _, f := range []api.Frame{{Op: api.OpWait}, full(api.OpWait, 1, 0, api.ResNone)} {
			one, a := wait.Step(c, nil, f)
			two, b := wait.Step(c, api.Mem{}, f)
			if len(one) != 0 || len(two) != 0 || a != f || b != f {
				t.Fatalf("%+v, %+v: %v, %+v of nil; %v, %+v of no cells", c, f, one, a, two, b)
			}
			if wait.Waits(c, nil, 0) || wait.Waits(c, api.Mem{}, 0) {
				t.Fatalf("%+v: somebody waits at no cells", c)
			}
		}
	}
}
