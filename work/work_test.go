package work_test

import (
	"math"
	"slices"
	"testing"

	"poacher/api"
	"poacher/work"
)

const most = math.MaxUint64

// far are numbers that name nothing; narrower kinds would take some of them for small ones.
func far() []int {
	return []int{
		math.MinInt, math.MinInt + 1, math.MinInt + 2, -1 << 62, math.MinInt32, -1 << 32, -1<<32 + 1, -1<<32 + 2, -1<<32 + 3, -1 << 16, -256, -255, -254, -253, -16, -9, -8, -7, -4, -3, -2, -1,
		32, 64, 128, 256, 257, 258, 259, 260, 1 << 16, 1<<16 + 1, math.MaxInt32, 1 << 32, 1<<32 + 1, 1<<32 + 2, 1<<32 + 3, 1 << 62, math.MaxInt - 1, math.MaxInt,
	}
}

// layouts are some that may be, some at the limits.
func layouts() []api.Conf {
	return []api.Conf{
		{W: 1, D: 1, I: 1}, {W: 1, D: 2, I: 3, Spin: 4}, {W: 2, D: 1, I: 2, Spin: 1}, {W: 2, D: 4, I: 1}, {W: 3, D: 2, I: 1, Spin: 2}, {W: 5, D: 8, I: 7, Spin: 3}, {W: 8, D: 1, I: 1, Spin: 4}, {W: 8, D: 16, I: 16, Spin: 4},
	}
}

// size is how many cells a layout has, told anew, as all cells here are.
func size(c api.Conf) int { return 6 + 2*c.I + c.W*(3+c.D) }

func topAt(c api.Conf, w int) int { return 6 + 2*c.I + w*(3+c.D) }

func bottomAt(c api.Conf, w int) int { return topAt(c, w) + 1 }

func parkAt(c api.Conf, w int) int { return topAt(c, w) + 2 }

func slotAt(c api.Conf, w, i int) int { return topAt(c, w) + 3 + i }

func noughts(c api.Conf) api.Mem { return make(api.Mem, size(c)) }

// family are tasks of work 0, of no kids, of both, and of neither.
func family() []api.Task {
	return []api.Task{{Work: 2, Kids: []int{1, 3}}, {Work: 1, Kids: []int{2}}, {}, {}, {Work: 20}}
}

// chain are n tasks, each the kid of the one ahead.
func chain(n int) []api.Task {
	out := make([]api.Task, n)
	for i := range n {
		out[i].Work = (i + 1) % 3
		if i+1 < n {
			out[i].Kids = []int{i + 1}
		}
	}
	return out
}

// broad are n tasks, all others kids of the first one, told in falling order.
func broad(n int) []api.Task {
	out := make([]api.Task, n)
	for k := n - 1; k > 0; k-- {
		out[0].Kids, out[k].Work = append(out[0].Kids, k), k%2
	}
	return out
}

// forests are lists of tasks that may be; none, too.
func forests() [][]api.Task {
	return [][]api.Task{nil, {}, {{}}, {{Work: 20}}, family(), chain(30), broad(30), make([]api.Task, 30)}
}

// wrongForests are tasks that may not be, each by one reason alone.
func wrongForests() [][]api.Task {
	with := func(i, work int, kids ...int) []api.Task {
		out := family()
		out[i] = api.Task{Work: work, Kids: kids}
		return out
	}
	out := [][]api.Task{append(family(), make([]api.Task, 26)...), make([]api.Task, 31), chain(31), broad(31), {{Kids: []int{0}}}}
	for _, n := range append(far(), 21, 22) {
		out = append(out, with(2, n), with(4, n))
	}
	for _, n := range append(far(), 5, 6) {
		out = append(out, with(3, 0, n), with(0, 2, 1, n))
	}
	return append(out, with(0, 2, 0), with(1, 1, 0), with(4, 20, 3), with(0, 2, 1, 1), with(1, 1, 3), with(0, 2, 1, 2))
}

// item is one of them: a task, how much is done, and how many kids it has spawned.
func item(task, done, kid int) api.Item { return api.Item{Task: task, Done: done, Kid: kid} }

// stacks are some of family that may be, whose last item ticks, spawns, or is done.
func stacks() [][]api.Item {
	return [][]api.Item{
		nil, {},
		{item(0, 0, 0)}, {item(0, 1, 0)}, {item(0, 2, 0)}, {item(0, 2, 1)}, {item(0, 2, 2)}, {item(1, 0, 0)}, {item(1, 1, 0)}, {item(1, 1, 1)}, {item(2, 0, 0)}, {item(3, 0, 0)}, {item(4, 0, 0)}, {item(4, 19, 0)}, {item(4, 20, 0)},
		{item(0, 2, 1), item(1, 1, 0)}, {item(0, 2, 1), item(1, 1, 1)}, {item(0, 2, 1), item(1, 1, 1), item(2, 0, 0)}, {item(4, 20, 0), item(4, 3, 0)}, {item(3, 0, 0), item(0, 2, 1)}, {item(0, 2, 2), item(3, 0, 0), item(2, 0, 0), item(1, 1, 1)},
	}
}

// wrongStacks are some of family that may not be, by an item, wherever it is.
func wrongStacks() [][]api.Item {
	wrong := []api.Item{item(0, 1, 1), item(0, -1, 0), item(0, 3, 0), item(0, 2, -1), item(0, 2, 3), item(0, 0, 2), item(1, 0, 1), item(1, 1, 2), item(1, 2, 0), item(2, 0, 1), item(2, 1, 0), item(3, 0, -1), item(4, 21, 0), item(4, 20, 1), item(5, 0, 0)}
	for _, n := range far() {
		wrong = append(wrong, item(n, 0, 0), item(0, n, 0), item(0, 2, n))
	}
	var out [][]api.Item
	for _, i := range wrong {
		out = append(out, []api.Item{i}, []api.Item{i, item(2, 0, 0)}, []api.Item{item(0, 2, 1), i}, []api.Item{item(4, 0, 0), i, item(3, 0, 0)})
	}
	return out
}

func call(op, who int, val uint64) api.Frame { return api.Frame{Op: op, Who: who, Val: val} }

// over is a call that is, by that result.
func over(op, res int, val uint64) api.Frame { return api.Frame{Op: op, Res: res, Val: val} }

func same(a, b api.Work) bool {
	return a.Pc == b.Pc && slices.Equal(a.Stack, b.Stack) && a.F == b.F && a.Spins == b.Spins && a.Look == b.Look
}

// inMidst is a worker none of whose parts is zero, at that Pc.
func inMidst(pc int) api.Work {
	return api.Work{Pc: pc, Stack: []api.Item{item(0, 2, 1), item(1, 1, 0)}, F: api.Frame{Op: 4, Pc: 1, Who: 1, Val: 7, X: 2, Y: 3}, Spins: 2, Look: 3}
}

// mayIs looks at May, and that Step hands all back where one may not step.
func mayIs(t *testing.T, want bool, c api.Conf, tasks []api.Task, m api.Mem, w int, x api.Work) {
	t.Helper()
	if work.May(c, tasks, m, w, x) != want {
		t.Fatalf("May(%v, %v, %d cells, %d, %+v) is not %v", c, tasks, len(m), w, x, want)
	}
	if want {
		return
	}
	for _, d := range []uint64{0, 1, most} {
		a, y, evs := work.Step(c, tasks, m, w, x, d)
		if !slices.Equal(a, m) || !same(y, x) || len(evs) != 0 {
			t.Fatalf("Step(%v, %v, %v, %d, %+v, %d) is %v, %+v, %v", c, tasks, m, w, x, d, a, y, evs)
		}
	}
}

func TestNew(t *testing.T) { // P18.1: of each worker, and of numbers that are none
	for w := -20; w <= 20; w++ {
		if got, want := work.New(w), (api.Work{F: api.Frame{Op: api.OpPop, Who: w}}); !same(got, want) {
			t.Errorf("New(%d) is %+v", w, got)
		}
	}
	for _, w := range far() {
		if got := work.New(w); got.Pc != 0 || len(got.Stack) != 0 || got.F != (api.Frame{Op: 1, Who: w}) || got.Spins != 0 || got.Look != 0 {
			t.Errorf("New(%d) is %+v", w, got)
		}
	}
}

func TestMayOfRightOnes(t *testing.T) { // P18.1: each worker, at each Pc, with each stack
	for _, c := range layouts() {
		for w := range c.W {
			for pc := range api.WkPcs {
				for _, s := range stacks() {
					x := inMidst(pc)
					x.Stack = s
					mayIs(t, true, c, family(), noughts(c), w, x)
				}
			}
			for _, f := range forests() {
				mayIs(t, true, c, f, noughts(c), w, work.New(w))
			}
		}
	}
}

func TestMayAsksForNothingElse(t *testing.T) { // P18.1, R4: not for the call, what is told of it, Spins, Look, or the cells' numbers
	c := api.Conf{W: 3, D: 2, I: 1, Spin: 2}
	m := noughts(c)
	for i := range m {
		m[i] = most - uint64(i)
	}
	for _, n := range append(far(), 0, 1, 2, 8, 9, 15, 16) {
		for pc := range api.WkPcs {
			x := inMidst(pc)
			for _, y := range []api.Work{
				{Pc: pc, Spins: n}, {Pc: pc, Look: n}, {Pc: pc, F: api.Frame{Op: n}}, {Pc: pc, F: api.Frame{Pc: n}}, {Pc: pc, F: api.Frame{Who: n}}, {Pc: pc, F: api.Frame{Res: n}},
				{Pc: pc, F: api.Frame{Val: uint64(n), X: uint64(n), Y: uint64(n)}}, {Pc: pc, Stack: x.Stack, F: api.Frame{Op: n, Pc: n, Who: n, Res: n}, Spins: n, Look: n},
			} {
				mayIs(t, true, c, family(), m, 1, y)
			}
		}
	}
}

func TestMayOfWrongLayouts(t *testing.T) { // P18.1, P18.2: each field, by itself
	wrong := []api.Conf{{}}
	for _, n := range append(far(), 0, 9, 10, 17) {
		wrong = append(wrong, api.Conf{W: n, D: 2, I: 3, Spin: 1})
	}
	for _, n := range append(far(), 0, 3, 5, 6, 7, 9, 10, 11, 12, 13, 14, 15, 17) {
		wrong = append(wrong, api.Conf{W: 2, D: n, I: 3, Spin: 1})
	}
	for _, n := range append(far(), 0, 17, 18) {
		wrong = append(wrong, api.Conf{W: 2, D: 2, I: n, Spin: 1})
	}
	for _, n := range append(far(), 5, 6) {
		wrong = append(wrong, api.Conf{W: 2, D: 2, I: 3, Spin: n})
	}
	for _, c := range wrong {
		cells := []api.Mem{nil, {}, noughts(api.Conf{W: 2, D: 2, I: 3}), noughts(api.Conf{W: 1, D: 2, I: 3})}
		// As many cells as the words would tell of it, so that the layout alone is wrong.
		if n := size(c); 0 < n && n < 1000 {
			cells = append(cells, make(api.Mem, n))
		}
		for _, m := range cells {
			for pc := range api.WkPcs {
				mayIs(t, false, c, family(), m, 0, inMidst(pc))
			}
		}
	}
}

func TestMayOfOtherCells(t *testing.T) { // P18.1, P18.2: one too few, one too many
	for _, c := range layouts() {
		n := size(c)
		for _, many := range []int{0, 1, n - 2, n - 1, n + 1, n + 2, 2 * n, n + 256} {
			for pc := range api.WkPcs {
				mayIs(t, false, c, family(), make(api.Mem, many), 0, inMidst(pc))
			}
		}
		mayIs(t, false, c, family(), nil, 0, work.New(0))
		mayIs(t, false, c, family(), noughts(c)[:n-1], 0, work.New(0)) // what lies behind the end is no cell
	}
}

func TestMayOfWrongTasks(t *testing.T) { // P18.1, P18.2: each reason of forest's May, also where no task is run
	c := api.Conf{W: 2, D: 2, I: 1, Spin: 1}
	for _, f := range wrongForests() {
		for pc := range api.WkPcs {
			x := inMidst(pc)
			mayIs(t, false, c, f, noughts(c), 1, x)
			x.Stack = nil
			mayIs(t, false, c, f, noughts(c), 1, x)
		}
		mayIs(t, false, c, f, noughts(c), 0, work.New(0))
	}
}

func TestMayOfNobody(t *testing.T) { // P18.1, P18.2
	for _, c := range layouts() {
		for _, w := range append(far(), c.W, c.W+1, c.W+2) {
			for pc := range api.WkPcs {
				mayIs(t, false, c, family(), noughts(c), w, inMidst(pc))
			}
			mayIs(t, false, c, nil, noughts(c), w, work.New(w))
		}
	}
}

func TestMayOfWrongPcs(t *testing.T) { // P18.1, P18.2
	for _, c := range layouts() {
		for _, pc := range append(far(), 16, 17, 18) {
			mayIs(t, false, c, family(), noughts(c), 0, inMidst(pc))
			mayIs(t, false, c, nil, noughts(c), c.W-1, api.Work{Pc: pc})
		}
	}
}

func TestMayOfWrongStacks(t *testing.T) { // P18.1, P18.2: wherever the wrong item is
	c := api.Conf{W: 2, D: 2, I: 1, Spin: 1}
	for _, s := range wrongStacks() {
		for pc := range api.WkPcs {
			x := inMidst(pc)
			x.Stack = s
			mayIs(t, false, c, family(), noughts(c), 1, x)
		}
	}
	for _, f := range [][]api.Task{nil, {}} {
		mayIs(t, false, c, f, noughts(c), 0, api.Work{Pc: api.WkRun, Stack: []api.Item{{}}})
	}
}

// parts are all of a worker that a number may be laid in, each by itself.
func parts(x *api.Work) []*int {
	out := []*int{&x.Pc, &x.F.Op, &x.F.Pc, &x.F.Who, &x.F.Res, &x.Spins, &x.Look}
	for i := range x.Stack {
		out = append(out, &x.Stack[i].Task, &x.Stack[i].Done, &x.Stack[i].Kid)
	}
	return out
}

func copied(x api.Work) api.Work {
	x.Stack = slices.Clone(x.Stack)
	return x
}

func TestSame(t *testing.T) { // P18.1: one part different, whichever it is; also of workers that may not step
	for _, x := range []api.Work{{}, work.New(3), inMidst(api.WkRun), inMidst(-5), {Stack: []api.Item{{Task: 77}, {Done: -1}, {Kid: 9}}}} {
		if y := copied(x); !work.Same(x, y) || !work.Same(y, x) || !work.Same(x, x) {
			t.Fatalf("%+v is not the same as itself", x)
		}
		for i := range parts(&x) {
			for _, by := range append(far(), 1, 2, 3) {
				y := copied(x)
				*parts(&y)[i] += by
				if work.Same(x, y) || work.Same(y, x) {
					t.Fatalf("%+v and %+v are the same", x, y)
				}
			}
		}
		for _, by := range []uint64{1, 2, 1 << 8, 1 << 16, 1 << 32, 1 << 63, most} {
			for i := range 3 {
				y := copied(x)
				*[]*uint64{&y.F.Val, &y.F.X, &y.F.Y}[i] += by
				if work.Same(x, y) || work.Same(y, x) {
					t.Fatalf("%+v and %+v are the same", x, y)
				}
			}
		}
	}
}

func TestSameOfStacks(t *testing.T) { // P18.1, R6: in order, as many items
	one, two := item(1, 2, 3), item(4, 5, 6)
	behind := []api.Item{one, two}
	for _, x := range []struct {
		a, b []api.Item
		want bool
	}{
		{nil, nil, true}, {nil, []api.Item{}, true}, {[]api.Item{}, []api.Item{}, true}, {nil, []api.Item{{}}, false}, {[]api.Item{}, []api.Item{{}}, false},
		{[]api.Item{{}}, []api.Item{{}, {}}, false}, {behind, []api.Item{one, two}, true}, {behind, []api.Item{two, one}, false}, {behind, []api.Item{one}, false},
		{behind, []api.Item{two}, false}, {behind[:1], []api.Item{one}, true}, {behind[:0], nil, true},
	} {
		a, b := inMidst(2), inMidst(2)
		a.Stack, b.Stack = x.a, x.b
		if work.Same(a, b) != x.want || work.Same(b, a) != x.want {
			t.Errorf("Same with the stacks %v, %v is not %v", x.a, x.b, x.want)
		}
	}
}

// calls are of each kind, at each Pc, over and not, and such as there are none of.
func calls() []api.Frame {
	var out []api.Frame
	for op := -2; op <= 9; op++ {
		for pc := -1; pc <= 8; pc++ {
			for res := -1; res <= 5; res++ {
				out = append(out, api.Frame{Op: op, Pc: pc, Res: res}, api.Frame{Op: op, Pc: pc, Res: res, Who: 2, Val: 3, X: 3, Y: 4})
			}
		}
	}
	for _, n := range far() {
		out = append(out, api.Frame{Op: n, Pc: 3}, api.Frame{Op: api.OpWait, Pc: n}, api.Frame{Op: api.OpWait, Pc: 3, Res: n}, api.Frame{Op: api.OpWait, Pc: 3, Who: n})
	}
	return out
}

func TestSeeks(t *testing.T) { // P18.1: at each Pc, whatever else there is
	seeks := map[int]bool{2: true, 3: true, 4: true, 5: true, 6: true}
	pcs := far()
	for pc := -1; pc <= 20; pc++ {
		pcs = append(pcs, pc)
	}
	for _, pc := range pcs {
		for _, f := range calls() {
			x, y := inMidst(pc), api.Work{Pc: pc, F: f}
			x.F = f
			if work.Seeks(x) != seeks[pc] || work.Seeks(y) != seeks[pc] {
				t.Fatalf("Seeks of %+v or %+v is not %v", x, y, seeks[pc])
			}
		}
	}
}

func TestParked(t *testing.T) { // P18.1: at each Pc, with each call
	pcs := far()
	for pc := -1; pc <= 20; pc++ {
		pcs = append(pcs, pc)
	}
	many := 0
	for _, pc := range pcs {
		for _, f := range calls() {
			want := pc == 8 && f.Op == 5 && f.Pc == 3 && f.Res == 0
			if want {
				many++
			}
			x, y := inMidst(pc), api.Work{Pc: pc, F: f}
			x.F = f
			if work.Parked(x) != want || work.Parked(y) != want {
				t.Fatalf("Parked of %+v or %+v is not %v", x, y, want)
			}
		}
	}
	if many < 3 {
		t.Error("hardly one is parked")
	}
}
