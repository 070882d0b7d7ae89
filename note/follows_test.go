package note_test

import (
	"slices"
	"testing"

	"poacher/api"
	"poacher/frame"
	"poacher/lay"
	"poacher/note"
	"poacher/wait"
	"poacher/word"
)

// nobodyAtAll is who wakes here: no worker has that number.
const nobodyAtAll = 9

// begins is a wake ahead of its first step.
func begins(op int) api.Frame { return frame.Begin(op, nobodyAtAll, 77) }

// woken goes on with a wake that begins till it is over, alone, and asks that it goes on for just so many steps.
func woken(t *testing.T, c api.Conf, m api.Mem, op, steps int) (api.Mem, api.Frame) {
	t.Helper()
	f := begins(op)
	for n := range steps {
		if !note.Goes(c, m, f) {
			t.Fatalf("%+v does not go on behind %d steps of %d", f, n, steps)
		}
		m, f = note.Step(c, m, f)
	}
	if !frame.Over(f) || note.Goes(c, m, f) {
		t.Fatalf("%+v is not over behind %d steps", f, steps)
	}
	return m, f
}

// wakesOne asks what a wake of one comes to, alone.
func wakesOne(t *testing.T, c api.Conf, m api.Mem) api.Mem {
	t.Helper()
	e := m[eventAt]
	want := slices.Clone(m)
	want[eventAt] = behind(e, 0)
	set := bitsOf(e)
	if len(set) == 0 {
		end, f := woken(t, c, m, api.OpNote, 2)
		if !slices.Equal(end, want) || f != over(f, api.ResEmpty, 0) {
			t.Fatalf("%v became %v, %+v", m, end, f)
		}
		return end
	}
	want[eventAt] += mask(e) - powers()[set[0]]
	want = parkedBy(c, want, uint64(set[0]))
	end, f := woken(t, c, m, api.OpNote, 3)
	if !slices.Equal(end, want) || f != over(f, api.ResOk, uint64(set[0])) {
		t.Fatalf("%v became %v, %+v, want %v", m, end, f, want)
	}
	return end
}

// wakesAll asks what a wake of all comes to, alone.
func wakesAll(t *testing.T, c api.Conf, m api.Mem) api.Mem {
	t.Helper()
	e := m[eventAt]
	want := slices.Clone(m)
	want[eventAt] = behind(e, 0)
	res := api.ResEmpty
	for _, w := range bitsOf(e) {
		want, res = parkedBy(c, want, uint64(w)), api.ResOk
	}
	end, f := woken(t, c, m, api.OpAll, 2+len(bitsOf(e)))
	if !slices.Equal(end, want) || f != over(f, res, mask(e)) {
		t.Fatalf("%v became %v, %+v, want %v", m, end, f, want)
	}
	return end
}

func TestAloneFromEachWord(t *testing.T) { // P15.4: the lowest bit's worker is woken, or all whose bits are set; those bits are gone, and there is one epoch more
	for _, c := range edges() {
		for _, e := range append(words(), edgeWords()...) {
			for _, parked := range parks() {
				for _, end := range []api.Mem{wakesOne(t, c, atEvent(c, e, parked)), wakesAll(t, c, atEvent(c, e, parked))} {
					if word.Epoch(end[eventAt]) == word.Epoch(e) {
						t.Fatalf("event %d became %d", e, end[eventAt])
					}
				}
			}
		}
	}
}

func TestAloneFromAllMasks(t *testing.T) { // P15.4: of eight workers, of the greatest epoch
	c := api.Conf{W: 8, D: 1, I: 1}
	m := lay.New(c)
	for low := range uint64(1 << 16) {
		m[eventAt] = most - 0xffff + low
		wakesOne(t, c, m)
		wakesAll(t, c, m)
	}
}

func TestAloneAtEachLayout(t *testing.T) { // P15.4: of a new pool, and where all its workers' bits are set
	for _, c := range layouts() {
		m := lay.New(c)
		wakesOne(t, c, m)
		wakesAll(t, c, m)
		for w := range c.W {
			m[eventAt] += powers()[w]
		}
		wakesOne(t, c, m)
		wakesAll(t, c, m)
	}
}

func TestOneBehindAnother(t *testing.T) { // P15.4: each wakes one more, the lowest one first, and from then on nobody
	c := api.Conf{W: 8, D: 1, I: 1}
	for _, low := range masks() {
		m := lay.New(c)
		m[eventAt] = (1<<48-3)*65536 + low
		for n, w := range bitsOf(low) {
			if ahead := parksSet(c, m); ahead != len(workersOf(c, bitsOf(low)[:n])) {
				t.Fatalf("mask %d: %d are woken behind %d wakes", low, ahead, n)
			}
			m = wakesOne(t, c, m)
			if has(m[eventAt], w) {
				t.Fatalf("mask %d: bit %d is set still", low, w)
			}
		}
		end := wakesOne(t, c, m)
		if mask(m[eventAt]) != 0 || parksSet(c, end) != parksSet(c, m) {
			t.Fatalf("mask %d: %v, %v", low, m, end)
		}
	}
}

// workersOf are those of these numbers that are a worker's.
func workersOf(c api.Conf, numbers []int) []int {
	return slices.DeleteFunc(slices.Clone(numbers), func(w int) bool { return w >= c.W })
}

// parksSet is how many park cells are not 0.
func parksSet(c api.Conf, m api.Mem) int {
	many := 0
	for w := range c.W {
		if m[parkAt(c, w)] != 0 {
			many++
		}
	}
	return many
}

func TestPreparedAheadOfAWake(t *testing.T) { // P15.4: who looks again behind it does not wait: behind no step, one, or two, whoever is woken
	for _, c := range edges() {
		for w := range c.W {
			for _, e := range append(words(), edgeWords()...) {
				for _, op := range ops() {
					for ahead := range 3 {
						m, f := atEvent(c, e, 0), frame.Begin(api.OpWait, w, 77)
						for range ahead {
							m, f = wait.Step(c, m, f)
						}
						waited := f
						m, _ = woken(t, c, m, op, wakeSteps(op, e))
						want := slices.Clone(m)
						for range []int{3, 1, 2}[ahead] {
							m, f = wait.Step(c, m, f)
						}
						if ahead == 0 { // it was not prepared, and is parked
							want[eventAt] |= powers()[w]
						}
						if !slices.Equal(m, want) || wait.Parked(f) != (ahead == 0) || ahead > 0 && f != over(waited, api.ResAbort, 0) {
							t.Fatalf("worker %d at %+v, event %d, Op %d behind %d steps: %+v, %v, want %v", w, c, e, op, ahead, f, m, want)
						}
					}
				}
			}
		}
	}
}

// wakeSteps is how many a wake does alone.
func wakeSteps(op int, e uint64) int {
	bits := len(bitsOf(e))
	if op == api.OpNote {
		return 2 + min(bits, 1)
	}
	return 2 + bits
}

func TestParkedAheadOfAWake(t *testing.T) { // P15.4: who is parked alone is woken, and over by two steps more
	for _, c := range edges() {
		for w := range c.W {
			for _, high := range epochs() {
				for _, op := range ops() {
					m, f := atEvent(c, high*65536, 0), frame.Begin(api.OpWait, w, 77)
					for range 3 {
						m, f = wait.Step(c, m, f)
					}
					if !wait.Parked(f) || !wait.Waits(c, m, w) {
						t.Fatalf("%+v, %v", f, m)
					}
					m, wake := woken(t, c, m, op, 3)
					val := uint64(w)
					if op == api.OpAll {
						val = powers()[w]
					}
					if wake != over(begins(op), api.ResOk, val) || wait.Waits(c, m, w) || m[parkAt(c, w)] != 1 {
						t.Fatalf("%+v, %v", wake, m)
					}
					for range 2 {
						m, f = wait.Step(c, m, f)
					}
					want := atEvent(c, behind(high*65536, 0), 0)
					if f.Res != api.ResOk || !slices.Equal(m, want) {
						t.Fatalf("%+v, %v, want %v", f, m, want)
					}
				}
			}
		}
	}
}

func TestOwesBetween(t *testing.T) { // P15.3, P15.4: behind each step, whom a wake owes one is who has neither the bit any more, nor the wake yet
	c := api.Conf{W: 8, D: 1, I: 1}
	for _, op := range ops() {
		for low := range uint64(1 << 8) {
			m, f := lay.New(c), begins(op)
			m[eventAt] = 0x90000 + low
			for note.Goes(c, m, f) {
				for w := range 16 {
					rest := w >= c.W || !has(m[eventAt], w) && m[parkAt(c, w)] == 0
					owes(t, f, w, has(low, w) && rest)
				}
				m, f = note.Step(c, m, f)
			}
			for w := range 16 {
				owes(t, f, w, false)
			}
		}
	}
}

func TestExample(t *testing.T) { // the chapter's example
	for _, op := range ops() {
		c := api.Conf{W: 1, D: 2, I: 1}
		m, f := woken(t, c, lay.New(c), op, 2)
		if want := (api.Mem{0, 0, 65536, 0, 0, 0, 0, 0, 0, 0, 0, 0, 0}); f.Res != api.ResEmpty || f.Val != 0 || !slices.Equal(m, want) {
			t.Errorf("%+v, %v", f, m)
		}
	}
}

// shape is a layout, with cells and a call, of which some go on.
type shape struct {
	c api.Conf
	n int
	f api.Frame
}

// shapes are all kinds of steps, and of calls that do not go on.
func shapes() []shape {
	var out []shape
	for _, c := range edges() {
		n := size(c)
		for _, op := range ops() {
			for pc := -1; pc <= 3; pc++ {
				for _, x := range []uint64{0x90003, 0x90000, 0x80003} {
					for _, y := range []uint64{0, 1, 3, 99} {
						out = append(out, shape{c, n, api.Frame{Op: op, Pc: pc, Who: 9, Val: 9, X: x, Y: y}})
					}
				}
			}
			for _, off := range []int{n - 1, n + 1, 0} {
				out = append(out, shape{c, off, api.Frame{Op: op}})
			}
			out = append(out, shape{c, n, full(op, 0, 0, 1)})
		}
		out = append(out, shape{c, n, full(api.OpWait, 0, 0, 0)})
	}
	return append(out, shape{api.Conf{}, 0, api.Frame{Op: api.OpNote}}, shape{api.Conf{}, 18, api.Frame{Op: api.OpAll}})
}

// cellsOf are filled cells, with an event of epoch 9 and two bits, with more memory behind their end.
func (s shape) cellsOf(behind int) api.Mem {
	m := append(make(api.Mem, 0, s.n+behind), filled(s.n)...)
	if s.n > eventAt {
		m[eventAt] = 0x90003
	}
	return m
}

// whole is all memory of cells, also what lies behind their end.
func whole(m api.Mem) api.Mem { return m[:cap(m)] }

// spoil lays a number everywhere, also behind the end.
func spoil(m api.Mem, n uint64) {
	for i := range whole(m) {
		whole(m)[i] = n
	}
}

func TestHandedInStays(t *testing.T) { // R3: also what lies behind the end
	for _, s := range shapes() {
		m := s.cellsOf(4)
		was := slices.Clone(whole(m))
		note.Goes(s.c, m, s.f)
		note.Step(s.c, m, s.f)
		note.Owes(s.f, 1)
		if !slices.Equal(whole(m), was) {
			t.Fatalf("%+v: %v is now %v", s, was, whole(m))
		}
	}
}

func TestAnswerIsTheCallersOwn(t *testing.T) { // R3: neither changes the other, not behind its end either
	const mine, other = 4321, 1234
	for _, s := range shapes() {
		for _, behind := range []int{0, 1, 5} {
			m := s.cellsOf(behind)
			end, _ := note.Step(s.c, m, s.f)
			want := slices.Clone(end)
			spoil(m, other)
			if !slices.Equal(end, want) {
				t.Fatalf("%+v: what was handed in changes the answer", s)
			}
			spoil(end, mine)
			_ = append(end, mine)
			if slices.Contains(whole(m), mine) {
				t.Fatalf("%+v: the answer changes what was handed in", s)
			}
		}
	}
}

func TestAnswersShareNothing(t *testing.T) { // R3, R5: and the same is answered again
	for _, s := range shapes() {
		m := s.cellsOf(0)
		goes, owes := note.Goes(s.c, m, s.f), note.Owes(s.f, 1)
		one, f := note.Step(s.c, m, s.f)
		note.Step(s.c, filled(s.n), s.f)
		two, g := note.Step(s.c, m, s.f)
		if !slices.Equal(one, two) || f != g || note.Goes(s.c, m, s.f) != goes || note.Owes(s.f, 1) != owes {
			t.Fatalf("%+v: another answer the second time", s)
		}
		want := slices.Clone(two)
		spoil(one, 0)
		if !slices.Equal(two, want) {
			t.Fatalf("%+v: two answers share numbers", s)
		}
	}
}

func TestNilIsAsGoodAsEmpty(t *testing.T) { // R6
	for _, c := range append(edges(), wrong()...) {
		for _, f := range []api.Frame{{Op: api.OpNote}, {Op: api.OpAll}, full(api.OpNote, 1, 0, api.ResNone), full(api.OpAll, 2, 0, api.ResNone)} {
			one, a := note.Step(c, nil, f)
			two, b := note.Step(c, api.Mem{}, f)
			if len(one) != 0 || len(two) != 0 || a != f || b != f {
				t.Fatalf("%+v, %+v: %v, %+v of nil; %v, %+v of no cells", c, f, one, a, two, b)
			}
			if note.Goes(c, nil, f) || note.Goes(c, api.Mem{}, f) {
				t.Fatalf("%+v: %+v goes on at no cells", c, f)
			}
		}
	}
}
