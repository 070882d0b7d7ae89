package work_test

import (
	"slices"
	"testing"

	"poacher/api"
	"poacher/deque"
	"poacher/event"
	"poacher/inject"
	"poacher/work"
)

// Of the first cells, those that a worker is at without a call, told anew.
const pendingAt, seekAt, headAt, tailAt = 0, 1, 4, 5

// drawn answers numbers below n, the same ones of each seed.
func drawn(seed int) func(n int) int {
	x := uint64(seed)*0x9e3779b97f4a7c15 + 1
	return func(n int) int {
		x = x*6364136223846793005 + 1442695040888963407
		return int((x >> 33) % uint64(n))
	}
}

// does is a step of a call, and whether it is over then.
func does(c api.Conf, m api.Mem, f api.Frame) (api.Mem, api.Frame, bool) {
	switch f.Op {
	case 0, 1, 2:
		m, f = deque.Step(c, m, f)
	case 3, 4:
		m, f = inject.Step(c, m, f)
	default:
		m, f = event.Step(c, m, f)
	}
	return m, f, f.Res != 0
}

// nextOf is what the last item does, and with which task.
func nextOf(t []api.Task, s []api.Item) (int, int) {
	if len(s) == 0 {
		return 0, 0
	}
	i := s[len(s)-1]
	switch {
	case i.Done < t[i.Task].Work:
		return 1, i.Task
	case i.Kid < len(t[i.Task].Kids):
		return 2, t[i.Task].Kids[i.Kid]
	}
	return 3, i.Task
}

// telling is the chapter told anew, of a worker that may step.
type telling struct {
	c   api.Conf
	t   []api.Task
	m   api.Mem
	w   int
	x   api.Work
	d   uint64
	evs []api.Ev
}

func (o *telling) goes(pc int, f api.Frame) { o.x.Pc, o.x.F = pc, f }

func (o *telling) own(pc, op int, val uint64) { o.goes(pc, call(op, o.w, val)) }

func (o *telling) starts(val uint64) {
	k := int(val)
	if 0 <= k && k < len(o.t) {
		o.x.Stack = append(o.x.Stack, item(k, 0, 0))
	}
	o.evs = append(o.evs, api.Ev{Kind: 2, Task: k, Who: o.w})
}

func (o *telling) fails() {
	if o.x.Spins > 0 {
		o.x.Spins--
		o.own(2, 4, 0)
	} else {
		o.own(5, 5, 0)
	}
}

func (o *telling) wakes(is bool) {
	if is {
		o.own(14, 6, 0)
	} else {
		o.goes(9, api.Frame{})
	}
}

// calls is a step at a Pc that has a call.
func (o *telling) calls() {
	var ends bool
	o.m, o.x.F, ends = does(o.c, o.m, o.x.F)
	f := o.x.F
	switch {
	case o.x.Pc == 5:
		o.x.Pc = 6
	case !ends:
	case o.x.Pc == 0 && f.Res == 1, o.x.Pc == 12 && f.Res == 2:
		o.goes(9, api.Frame{})
		o.starts(f.Val)
	case o.x.Pc == 0, o.x.Pc == 8:
		o.goes(1, api.Frame{})
	case o.x.Pc == 2 && f.Res == 1, o.x.Pc == 3 && f.Res == 1:
		o.x.Pc = 4
	case o.x.Pc == 2 && o.c.W > 1:
		victim := o.w + 1 + int(o.d%uint64(o.c.W-1))
		if victim >= o.c.W {
			victim -= o.c.W
		}
		o.goes(3, call(2, victim, 0))
	case o.x.Pc == 2, o.x.Pc == 3:
		o.fails()
	case o.x.Pc == 11 && f.Res == 2:
		o.own(12, 3, f.Val)
	case o.x.Pc == 11, o.x.Pc == 12:
		o.goes(13, api.Frame{})
	case o.x.Pc == 14:
		o.goes(9, api.Frame{})
	}
}

// looks is a step at WkLook.
func (o *telling) looks() {
	end := 2 + 2*o.c.W
	switch l := o.x.Look; {
	case l < 0 || l >= end:
		o.x.Look = end
	case l == 0:
		o.x.F.Val, o.x.Look = o.m[headAt], 1
	case l == 1 && o.m[tailAt] != o.x.F.Val:
		o.goes(1, api.Frame{})
	case l == 1:
		o.x.Look = 2
	case l%2 == 0:
		o.x.F.Val, o.x.Look = o.m[topAt(o.c, l/2-1)], l+1
	case int(o.m[bottomAt(o.c, l/2-1)]-o.x.F.Val) > 0:
		o.goes(1, api.Frame{})
	default:
		o.x.Look = l + 1
	}
	if o.x.Look == end {
		o.x.Pc, o.x.F.Val, o.x.Look = 8, 0, 0
	}
}

// thinks is a step at WkRun, WkPend or WkDone, by what the last item does.
func (o *telling) thinks() {
	kind, task := nextOf(o.t, o.x.Stack)
	last := len(o.x.Stack) - 1
	switch pc := o.x.Pc; {
	case pc == 9 && kind == 1:
		o.x.Stack[last].Done++
	case pc == 9 && kind == 2:
		o.x.Pc = 10
	case pc == 9 && kind == 3:
		o.x.Pc = 15
	case pc == 9:
		o.own(0, 1, 0)
	case pc == 10 && kind == 2:
		o.m[pendingAt]++
		o.evs = append(o.evs, api.Ev{Kind: 3, Task: task, Who: o.w})
		o.x.Stack[last].Kid++
		o.own(11, 0, uint64(task))
	case pc == 15 && kind == 3:
		o.evs = append(o.evs, api.Ev{Kind: 4, Task: task, Who: o.w})
		if o.m[pendingAt] == 1 {
			o.evs = append(o.evs, api.Ev{Kind: 5, Who: o.w})
		}
		o.m[pendingAt]--
		o.x.Stack = o.x.Stack[:last]
		if last == 0 {
			o.own(0, 1, 0)
		} else {
			o.goes(9, api.Frame{})
		}
	default:
		o.goes(9, api.Frame{})
	}
}

// told is a step as the chapter tells it.
func told(c api.Conf, t []api.Task, m api.Mem, w int, x api.Work, d uint64) (api.Mem, api.Work, []api.Ev) {
	o := &telling{c: c, t: t, m: slices.Clone(m), w: w, x: copied(x), d: d}
	switch x.Pc {
	case 0, 2, 3, 5, 8, 11, 12, 14:
		o.calls()
	case 1:
		o.m[seekAt]++
		o.x.Spins = c.Spin
		o.own(2, 4, 0)
	case 4:
		o.m[seekAt]--
		o.starts(x.F.Val)
		o.wakes(m[seekAt] == 1)
	case 6:
		o.m[seekAt]--
		o.x.Pc, o.x.Look = 7, 0
	case 7:
		o.looks()
	case 13:
		o.wakes(m[seekAt] == 0)
	default:
		o.thinks()
	}
	return o.m, o.x, o.evs
}

// asTold holds a step against what is told of it, and what was handed in against what it was.
func asTold(t *testing.T, c api.Conf, tasks []api.Task, m api.Mem, w int, x api.Work, d uint64) (api.Mem, api.Work, []api.Ev) {
	t.Helper()
	cells, was := slices.Clone(m), copied(x)
	wantM, wantX, wantEvs := told(c, tasks, m, w, x, d)
	a, y, evs := work.Step(c, tasks, m, w, x, d)
	if !slices.Equal(a, wantM) || !same(y, wantX) || !slices.Equal(evs, wantEvs) {
		t.Fatalf("Step(%v, %v, %v, %d, %+v, %d) is\n%v, %+v, %v, not\n%v, %+v, %v", c, tasks, m, w, x, d, a, y, evs, wantM, wantX, wantEvs)
	}
	if !slices.Equal(m, cells) || !same(x, was) {
		t.Fatalf("Step(%v, %v, %v, %d, %+v, %d) has changed what was handed in", c, tasks, cells, w, was, d)
	}
	return a, y, evs
}

// mixed are cells of small numbers, and of such around 2^64 and 2^63.
func mixed(c api.Conf, seed int) api.Mem {
	next, m := drawn(seed), noughts(c)
	some := []uint64{0, 0, 0, 1, 1, 2, 3, 4, most, most - 1, 1 << 63, 1<<63 - 1, 3<<16 | 5}
	for i := range m {
		m[i] = some[next(len(some))]
	}
	return m
}

// values are those of each task of family, and of such as there are none of.
func values() []uint64 {
	return []uint64{0, 1, 2, 3, 4, 5, 6, 30, 255, 256, 1 << 16, 1 << 32, 1<<32 + 1, 1<<63 - 1, 1 << 63, 1<<63 + 1, most - 1, most}
}

// withCalls are the Pcs at which a call is.
func withCalls() []int { return []int{0, 2, 3, 5, 8, 11, 12, 14} }

func TestCallsThatWereOver(t *testing.T) { // P18.2: by each result, with each value, whichever call it was
	c := api.Conf{W: 3, D: 2, I: 1, Spin: 2}
	m := mixed(c, 1)
	for _, pc := range withCalls() {
		for op := -1; op <= 8; op++ {
			for _, res := range append(far(), 1, 2, 3, 4, 5) {
				for i, v := range values() {
					x := inMidst(pc)
					x.F = api.Frame{Op: op, Pc: i % 4, Who: i % 3, Val: v, X: 1, Y: 2, Res: res}
					x.Stack = stacks()[i%len(stacks())]
					x.Spins = i%4 - 1
					asTold(t, c, family(), m, i%3, x, uint64(i))
				}
			}
		}
	}
}

func TestCallsAtEachPc(t *testing.T) { // P18.2: such as go on, and such as do not, at cells of all sorts
	n := 0
	for _, c := range layouts() {
		for _, f := range calls() {
			if f.Res < 0 || f.Res > 1 {
				continue
			}
			n++
			m := mixed(c, n)
			for _, pc := range withCalls() {
				x := inMidst(pc)
				x.F, x.Spins = f, n%3
				x.F.Who = n % (c.W + 1)
				x.F.X = uint64(n % 5)
				asTold(t, c, family(), m, n%c.W, x, uint64(n))
				asTold(t, c, family(), noughts(c), n%c.W, x, uint64(n))
			}
		}
	}
}

func TestFailed(t *testing.T) { // P18.2: at each number of Spins, with and without a victim, at each draw
	spins := append(far(), 0, 1, 2, 3, 4, 5, 100)
	for _, c := range layouts() {
		for w := range c.W {
			for _, n := range spins {
				for _, res := range []int{2, 3, 4, 5, -1} {
					for _, d := range []uint64{0, 1, most} {
						steal := api.Work{Pc: 3, Stack: []api.Item{item(0, 1, 0)}, F: over(api.OpSteal, res, 5), Spins: n, Look: 4}
						deq := api.Work{Pc: 2, F: over(api.OpDeq, res, 5), Spins: n}
						for _, x := range []api.Work{steal, deq} {
							_, y, evs := asTold(t, c, family(), mixed(c, n), w, x, d)
							if len(evs) > 0 {
								t.Fatal(evs)
							}
							if x.Pc == 2 && c.W > 1 {
								if y.Pc != 3 || y.Spins != n {
									t.Fatalf("%+v becomes %+v", x, y)
								}
								continue
							}
							if n > 0 && (y.Pc != 2 || y.Spins != n-1 || y.F != call(api.OpDeq, w, 0)) || n <= 0 && (y.Pc != 5 || y.Spins != n || y.F != call(api.OpWait, w, 0)) {
								t.Fatalf("%+v becomes %+v", x, y)
							}
						}
					}
				}
			}
		}
	}
}

func TestVictims(t *testing.T) { // P18.2: each draw around a multiple of how many others there are, and the largest one
	for _, many := range []int{2, 3, 5, 7, 8} {
		c := api.Conf{W: many, D: 1, I: 1, Spin: 1}
		m := noughts(c)
		others := uint64(many - 1)
		draws := []uint64{most, most - 1, 1 << 63, 1<<63 - 1, 1 << 32}
		for _, times := range []uint64{0, 1, 2, 3, 100, most / others} {
			for by := range 2 * others {
				draws = append(draws, times*others+by, times*others-by)
			}
		}
		for w := range many {
			seen := map[int]bool{}
			for _, d := range draws {
				x := api.Work{Pc: 2, F: over(api.OpDeq, 3, 9), Spins: 2}
				_, y, _ := asTold(t, c, nil, m, w, x, d)
				if y.Pc != 3 || y.F != call(api.OpSteal, y.F.Who, 0) || y.F.Who == w || y.Spins != 2 {
					t.Fatalf("%+v", y)
				}
				seen[y.F.Who] = true
			}
			if len(seen) != many-1 {
				t.Fatalf("%d of %d looks at %v", w, many, seen)
			}
		}
	}
}

func TestSeekCell(t *testing.T) { // P18.2: WkSeek, WkFound, WkLeave and WkSee, with each number that the cell may have
	for _, c := range layouts() {
		for _, n := range []uint64{0, 1, 2, 3, 8, 1 << 16, 1<<16 + 1, 1 << 32, 1<<32 + 1, 1 << 63, 1<<63 + 1, most - 1, most} {
			m := mixed(c, int(n))
			m[seekAt] = n
			for w := range c.W {
				for i, v := range values() {
					x := inMidst(1)
					x.F.Val, x.Spins, x.Stack = v, i-2, stacks()[i%len(stacks())]
					a, y, evs := asTold(t, c, family(), m, w, x, uint64(i))
					if a[seekAt] != n+1 || y.Spins != c.Spin || y.Pc != 2 || len(evs) != 0 {
						t.Fatalf("%+v becomes %+v", x, y)
					}
					x.Pc = 4
					a, y, evs = asTold(t, c, family(), m, w, x, uint64(i))
					if a[seekAt] != n-1 || (y.Pc == 14) != (n == 1) || (y.Pc == 9) != (n != 1) || !slices.Equal(evs, []api.Ev{{Kind: api.EvStart, Task: int(v), Who: w}}) {
						t.Fatalf("%+v becomes %+v", x, y)
					}
					x.Pc = 6
					a, y, evs = asTold(t, c, family(), m, w, x, uint64(i))
					if x.Pc, x.Look = 7, 0; a[seekAt] != n-1 || !same(y, x) || len(evs) != 0 {
						t.Fatalf("%+v becomes %+v", x, y)
					}
					x.Pc = 13
					a, y, evs = asTold(t, c, family(), m, w, x, uint64(i))
					if a[seekAt] != n || (y.Pc == 14) != (n == 0) || (y.Pc == 9) != (n != 0) || len(evs) != 0 {
						t.Fatalf("%+v becomes %+v", x, y)
					}
				}
			}
		}
	}
}

func TestLook(t *testing.T) { // P18.2: at each Look, with numbers as far as, ahead of, and behind the one that was loaded
	bases := []uint64{0, 1, 2, 3, 100, most, most - 1, 1 << 63, 1<<63 - 1, 1<<63 + 1}
	fars := []uint64{0, 1, 2, 3, 16, 17, 1 << 32, 1<<63 - 1, 1 << 63, 1<<63 + 1, most - 1, most}
	for _, c := range layouts() {
		looks := far()
		for l := -1; l <= 2*c.W+6; l++ {
			looks = append(looks, l)
		}
		for _, l := range looks {
			for i, base := range bases {
				for _, by := range fars {
					m := mixed(c, i)
					m[headAt], m[tailAt] = base, base+by
					for v := range c.W {
						// Another worker's are told otherwise, so that it is known at whose one looks.
						m[topAt(c, v)], m[bottomAt(c, v)] = base+uint64(v), base+by-uint64(v)
					}
					x := api.Work{Pc: 7, Stack: []api.Item{item(1, 1, 0)}, F: api.Frame{Op: 5, Pc: 1, Val: base, X: 8, Y: 9}, Spins: 3, Look: l}
					asTold(t, c, family(), m, i%c.W, x, uint64(i))
				}
			}
		}
	}
}

func TestThought(t *testing.T) { // P18.2: WkRun, WkPend and WkDone with each act, theirs and not, with each number that is pending
	for _, c := range layouts() {
		for _, n := range []uint64{0, 1, 2, 3, 1 << 32, 1<<32 + 1, 1 << 63, 1<<63 + 1, most - 1, most} {
			m := mixed(c, int(n))
			m[pendingAt] = n
			for w := range c.W {
				for _, s := range stacks() {
					for _, pc := range []int{9, 10, 15} {
						x := inMidst(pc)
						x.Stack = s
						asTold(t, c, family(), m, w, x, 3)
					}
				}
				for _, f := range forests() {
					for k := range f {
						for _, pc := range []int{9, 10, 15} {
							ticked := item(k, f[k].Work, 0)
							asTold(t, c, f, m, w, api.Work{Pc: pc, Stack: []api.Item{ticked}}, 0)
							asTold(t, c, f, m, w, api.Work{Pc: pc, Stack: []api.Item{ticked, item(k, f[k].Work, len(f[k].Kids))}}, 0)
						}
					}
				}
			}
		}
	}
}

func TestStepOfAnybody(t *testing.T) { // P18.2: workers that may step, drawn, wherever they are, at cells of all sorts
	next := drawn(18)
	some := []int{0, 0, 1, 2, 3, 4, 5, 7, -1, 16}
	all := layouts()
	for n := range 60000 {
		c := all[next(len(all))]
		x := api.Work{Pc: next(api.WkPcs), Stack: stacks()[next(len(stacks()))], Spins: next(4) - 1, Look: next(2*c.W + 4)}
		x.F = api.Frame{Op: next(10) - 1, Pc: next(6), Who: next(c.W), Val: values()[next(len(values()))], X: uint64(some[next(len(some))]), Y: uint64(some[next(len(some))])}
		if next(3) == 0 {
			x.F.Res = next(5)
		}
		asTold(t, c, family(), mixed(c, n), next(c.W), x, uint64(next(20)))
	}
}
