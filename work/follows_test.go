package work_test

import (
	"slices"
	"testing"

	"poacher/api"
	"poacher/inject"
	"poacher/work"
)

// changed are the places at which both have other numbers.
func changed(a, b api.Mem) []int {
	var out []int
	for i := range a {
		if a[i] != b[i] {
			out = append(out, i)
		}
	}
	return out
}

// anybody is a worker that may step, drawn, with what it needs for that.
func anybody(next func(int) int) (api.Conf, api.Mem, int, api.Work) {
	c := layouts()[next(len(layouts()))]
	x := api.Work{Pc: next(api.WkPcs), Stack: stacks()[next(len(stacks()))], Spins: next(4) - 1, Look: next(2*c.W + 4)}
	x.F = api.Frame{Op: next(10) - 1, Pc: next(7), Who: next(c.W), Val: values()[next(len(values()))], X: uint64(next(4)), Y: uint64(next(4))}
	if next(4) == 0 {
		x.F.Res = next(5)
	}
	return c, mixed(c, next(1<<20)), next(c.W), x
}

func TestAtMostOneCellChanges(t *testing.T) { // P18.3: and what may step may step behind it
	next := drawn(5)
	for range 20000 {
		c, m, w, x := anybody(next)
		for range 4 {
			a, y, _ := work.Step(c, family(), m, w, x, uint64(next(9)))
			if at := changed(m, a); len(a) != len(m) || len(at) > 1 {
				t.Fatalf("a step of %+v changes the cells %v", x, at)
			}
			if !work.May(c, family(), a, w, y) {
				t.Fatalf("%+v may not step behind %+v", y, x)
			}
			m, x = a, y
		}
	}
}

// touched are the cells that a step is at: what it changes, and those that its answer hangs on.
func touched(c api.Conf, m api.Mem, w int, x api.Work, d uint64) []int {
	a, y, evs := work.Step(c, family(), m, w, x, d)
	var out []int
	for i := range m {
		is := a[i] != m[i]
		for _, n := range []uint64{0, 1, 2, 3, m[i] + 1, m[i] - 1, m[i] + 5, m[i] + 1<<16, m[i] + 1<<63} {
			other := slices.Clone(m)
			other[i] = n
			b, z, more := work.Step(c, family(), other, w, x, d)
			is = is || b[i] != n || !same(y, z) || !slices.Equal(evs, more)
			b[i] = a[i]
			is = is || !slices.Equal(a, b)
		}
		if is {
			out = append(out, i)
		}
	}
	return out
}

func TestAStepIsAtOneCell(t *testing.T) { // P18.3: at most; what it does hangs on no other one
	next := drawn(6)
	many := map[int]int{}
	for n := 0; n < 4000; {
		c, m, w, x := anybody(next)
		if c.W > 3 {
			continue
		}
		n++
		at := touched(c, m, w, x, uint64(next(9)))
		if len(at) > 1 {
			t.Fatalf("a step of %+v is at the cells %v", x, at)
		}
		many[len(at)]++
	}
	if many[0] < 200 || many[1] < 200 {
		t.Error(many)
	}
}

func TestWhatIsAtNoCell(t *testing.T) { // P18.3: what a task does next is its own
	c := two()
	for n, s := range stacks() {
		x := api.Work{Pc: api.WkRun, Stack: s}
		if at := touched(c, mixed(c, n), 1, x, 0); len(at) > 0 {
			t.Errorf("a step of %+v is at the cells %v", x, at)
		}
	}
}

// roomy is that with room behind its end, which is told by the number there.
func roomy(m api.Mem) api.Mem {
	return append(append(make(api.Mem, 0, len(m)+5), m...), 71, 72, 73, 74, 75)[:len(m)]
}

func roomyStack(s []api.Item) []api.Item {
	out := append(make([]api.Item, 0, len(s)+3), s...)
	return append(out, item(81, 1, 1), item(82, 2, 2), item(83, 3, 3))[:len(s)]
}

func roomyTasks(t []api.Task) []api.Task {
	out := make([]api.Task, 0, len(t)+2)
	for _, task := range t {
		kids := append(make([]int, 0, len(task.Kids)+2), task.Kids...)
		out = append(out, api.Task{Work: task.Work, Kids: append(kids, 91, 92)[:len(kids)]})
	}
	return append(out, api.Task{Work: 93}, api.Task{Work: 94})[:len(t)]
}

// spoil lays other numbers into all memory of that, also behind its ends.
func spoil(m api.Mem, s []api.Item, evs []api.Ev) {
	for i := range m[:cap(m)] {
		m[:cap(m)][i] = 666
	}
	for i := range s[:cap(s)] {
		s[:cap(s)][i] = item(666, 666, 666)
	}
	for i := range evs[:cap(evs)] {
		evs[:cap(evs)][i] = api.Ev{Kind: 666}
	}
}

// whole is that with what is behind its end.
func whole[L ~[]E, E any](l L) L { return l[:cap(l)] }

func sameTasks(a, b []api.Task) bool {
	return slices.EqualFunc(whole(a), whole(b), func(x, y api.Task) bool { return x.Work == y.Work && slices.Equal(whole(x.Kids), whole(y.Kids)) })
}

// apart looks that a step leaves what it is handed, also behind the ends, and that its answer is the caller's own.
func apart(t *testing.T, c api.Conf, m api.Mem, w int, x api.Work, d uint64) {
	t.Helper()
	tasks, cells := roomyTasks(family()), roomy(m)
	x.Stack = roomyStack(x.Stack)
	wasT, wasM, was := roomyTasks(family()), roomy(m), x
	was.Stack = roomyStack(x.Stack)
	unspoiled := func(what string) {
		if !sameTasks(tasks, wasT) || !slices.Equal(whole(cells), whole(wasM)) || !same(x, was) || !slices.Equal(whole(x.Stack), whole(was.Stack)) {
			t.Fatalf("%s: what was handed in is not as it was: %+v", what, was)
		}
	}
	a1, y1, evs1 := work.Step(c, tasks, cells, w, x, d)
	a2, y2, evs2 := work.Step(c, tasks, cells, w, x, d)
	unspoiled("stepped")
	if !slices.Equal(a1, a2) || !same(y1, y2) || !slices.Equal(evs1, evs2) { // R5
		t.Fatalf("%+v becomes %+v, and %+v", was, y1, y2)
	}
	keptA, keptY, keptEvs := slices.Clone(a2), copied(y2), slices.Clone(evs2)
	spoil(a1, y1.Stack, evs1)
	unspoiled("an answer was spoiled")
	spoil(cells, x.Stack, nil)
	for i := range tasks {
		tasks[i].Work = 666
		for j := range whole(tasks[i].Kids) {
			whole(tasks[i].Kids)[j] = 666
		}
	}
	if !slices.Equal(a2, keptA) || !same(y2, keptY) || !slices.Equal(evs2, keptEvs) {
		t.Fatalf("%+v becomes %+v, and then %+v", was, keptY, y2)
	}
}

func TestAnswersAreTheCallersOwn(t *testing.T) { // R3, R5
	next := drawn(7)
	for range 20000 {
		c, m, w, x := anybody(next)
		apart(t, c, m, w, x, uint64(next(9)))
	}
	for pc := range api.WkPcs {
		for _, s := range stacks() {
			x := api.Work{Pc: pc, Stack: s, F: over(api.OpPop, 1, 3)}
			apart(t, two(), noughts(two()), 1, x, 0)
			x.F.Res = 2
			apart(t, two(), noughts(two()), 1, x, 0)
		}
	}
}

func TestAnswersOfWhatMayNotStepAreTheCallersOwn(t *testing.T) { // R3, R5
	m := noughts(two())
	for _, s := range append(wrongStacks(), stacks()...) {
		x := inMidst(api.WkRun)
		x.Stack = s
		apart(t, two(), m, 2, x, 0)
		apart(t, two(), m[1:], 0, x, 0)
		apart(t, api.Conf{}, m, 0, x, 0)
		x.Pc = 16
		apart(t, two(), m, 0, x, 0)
		x.Pc = -1
		apart(t, two(), nil, 0, x, 0)
	}
}

func TestOtherCallsLeaveWhatTheyAreHanded(t *testing.T) { // R3, R5: May, Same, Seeks and Parked
	for _, s := range append(wrongStacks(), stacks()...) {
		tasks, m := roomyTasks(family()), roomy(noughts(two()))
		x := inMidst(api.WkCommit)
		x.Stack = roomyStack(s)
		y := copied(x)
		first := []bool{work.May(two(), tasks, m, 1, x), work.Same(x, y), work.Seeks(x), work.Parked(x)}
		if again := []bool{work.May(two(), tasks, m, 1, x), work.Same(x, y), work.Seeks(x), work.Parked(x)}; !slices.Equal(first, again) {
			t.Fatal(first, again)
		}
		if !sameTasks(tasks, roomyTasks(family())) || !slices.Equal(whole(m), whole(roomy(noughts(two())))) || !slices.Equal(whole(x.Stack), whole(roomyStack(s))) {
			t.Fatalf("%v is not as it was", s)
		}
	}
}

func TestNilAndEmpty(t *testing.T) { // R6: no item, no task and no kid, nil and empty
	none := [][]api.Task{nil, {}}
	m := noughts(two())
	for pc := range api.WkPcs {
		for _, f := range none {
			for _, s := range [][]api.Item{nil, {}, stacks()[2][:0]} {
				x := api.Work{Pc: pc, Stack: s, F: over(api.OpPop, 1, 0)}
				a, y, evs := work.Step(two(), f, m, 0, x, 0)
				wantM, wantX, wantEvs := told(two(), nil, m, 0, api.Work{Pc: pc, F: x.F}, 0)
				if !work.May(two(), f, m, 0, x) || !slices.Equal(a, wantM) || !same(y, wantX) || !slices.Equal(evs, wantEvs) {
					t.Fatalf("%+v becomes %+v, %v", x, y, evs)
				}
			}
		}
	}
	x := api.Work{Pc: api.WkRun, Stack: []api.Item{{}}}
	_, a, _ := work.Step(two(), []api.Task{{Kids: nil}}, m, 0, x, 0)
	_, b, _ := work.Step(two(), []api.Task{{Kids: []int{}}}, m, 0, x, 0)
	if !same(a, b) || a.Pc != api.WkDone {
		t.Error(a, b)
	}
}

// all are workers, and the cells that they share, with roots in the injector.
type all struct {
	c     api.Conf
	tasks []api.Task
	m     api.Mem
	x     []api.Work
	evs   []api.Ev
	roots int
}

func begins(c api.Conf, tasks []api.Task, roots []int) *all {
	o := &all{c: c, tasks: tasks, m: noughts(c), roots: len(roots)}
	for w := range c.W {
		o.x = append(o.x, work.New(w))
	}
	for _, r := range roots {
		for f := call(api.OpEnq, 0, uint64(r)); f.Res == 0; {
			o.m, f = inject.Step(c, o.m, f)
		}
	}
	o.m[pendingAt] = uint64(len(roots))
	return o
}

// step is one of worker w; what must hold in all orders is looked at behind it.
func (o *all) step(t *testing.T, w int, d uint64) {
	t.Helper()
	m, x, evs := asTold(t, o.c, o.tasks, o.m, w, o.x[w], d)
	if at := changed(o.m, m); len(at) > 1 {
		t.Fatalf("a step of %+v changes the cells %v", o.x[w], at)
	}
	if !work.May(o.c, o.tasks, m, w, x) {
		t.Fatalf("%+v may not step behind %+v", x, o.x[w])
	}
	o.m, o.x[w], o.evs = m, x, append(o.evs, evs...)
	seek, pending := 0, o.roots
	for _, x := range o.x {
		if work.Seeks(x) {
			seek++
		}
	}
	for _, e := range o.evs {
		switch e.Kind {
		case api.EvSpawn:
			pending++
		case api.EvFinish:
			pending--
		}
	}
	if o.m[seekAt] != uint64(seek) || o.m[pendingAt] != uint64(pending) {
		t.Fatalf("%d seek and %d are pending, but the cells are %v", seek, pending, o.m)
	}
}

func (o *all) asleep() bool {
	for w, x := range o.x {
		if !work.Parked(x) || o.m[parkAt(o.c, w)] != 0 {
			return false
		}
	}
	return true
}

// rests lets all take turns, drawn, till they are asleep.
func (o *all) rests(t *testing.T, seed int) {
	t.Helper()
	next := drawn(seed)
	for n := 0; !o.asleep(); n++ {
		if n > 30000 {
			t.Fatalf("seed %d: no rest: %+v", seed, o.x)
		}
		// One has some turns in a row, in some orders.
		for w, many := next(o.c.W), 1+next(1+seed%9); many > 0; many-- {
			o.step(t, w, uint64(next(20)))
		}
	}
}

// inOrder looks that each task was started once, behind its spawn, was done once, behind that and its kids' spawns, and that idle was told in the end, once.
func (o *all) inOrder(t *testing.T) {
	t.Helper()
	spawned, started, finished, kids := map[int]int{}, map[int]int{}, map[int]int{}, map[int]int{}
	parent := map[int]int{}
	for p, task := range o.tasks {
		for _, k := range task.Kids {
			parent[k] = p
		}
	}
	for i, e := range o.evs {
		p, isKid := parent[e.Task]
		switch e.Kind {
		case api.EvSpawn:
			spawned[e.Task]++
			if !isKid || started[p] != 1 || finished[p] != 0 || o.tasks[p].Kids[kids[p]] != e.Task {
				t.Fatalf("%v of %v", e, o.evs)
			}
			kids[p]++
		case api.EvStart:
			started[e.Task]++
			if isKid && spawned[e.Task] != 1 {
				t.Fatalf("%v of %v", e, o.evs)
			}
		case api.EvFinish:
			finished[e.Task]++
			if started[e.Task] != 1 || kids[e.Task] != len(o.tasks[e.Task].Kids) {
				t.Fatalf("%v of %v", e, o.evs)
			}
		case api.EvIdle:
			if i != len(o.evs)-1 || e.Task != 0 {
				t.Fatalf("%v, the %d-th of %v", e, i, o.evs)
			}
		default:
			t.Fatal(e)
		}
	}
	for k := range o.tasks {
		if started[k] != 1 || finished[k] != 1 {
			t.Fatalf("task %d of %v", k, o.evs)
		}
	}
	if n := len(o.evs); n > 0 != (o.roots > 0) || n > 0 && o.evs[n-1].Kind != api.EvIdle {
		t.Fatal(o.evs)
	}
}

func TestAllComesToRest(t *testing.T) { // P18.3 in all orders, and what follows of it: P2, P3, P4, P5 and P6
	forests := []struct {
		tasks []api.Task
		roots []int
	}{
		{nil, nil}, {[]api.Task{{}}, []int{0}}, {[]api.Task{{Work: 1}}, []int{0}}, {family(), []int{0, 4}}, {chain(30), []int{0}}, {broad(30), []int{0}}, {broad(4), []int{0}}, {make([]api.Task, 3), []int{2, 0, 1}},
	}
	for _, c := range layouts() {
		for _, f := range forests {
			if len(f.roots) > c.I {
				continue
			}
			for seed := range 6 {
				o := begins(c, f.tasks, f.roots)
				o.rests(t, seed)
				o.inOrder(t)
				if o.m[pendingAt] != 0 || o.m[seekAt] != 0 || o.m[headAt] != o.m[tailAt] {
					t.Fatal(o.m)
				}
				for w := range c.W {
					if o.m[topAt(c, w)] != o.m[bottomAt(c, w)] {
						t.Fatal(o.m)
					}
				}
			}
		}
	}
}

func TestWhatFindsNoRoomIsRun(t *testing.T) { // the whole's second and third example: a deque with room for 1, an injector with room for 1, and one worker
	for many, want := range map[int][]api.Ev{
		2: {{Kind: 2}, {Kind: 3, Task: 1}, {Kind: 3, Task: 2}, {Kind: 4}, {Kind: 2, Task: 1}, {Kind: 4, Task: 1}, {Kind: 2, Task: 2}, {Kind: 4, Task: 2}, {Kind: 5}},
		3: {{Kind: 2}, {Kind: 3, Task: 1}, {Kind: 3, Task: 2}, {Kind: 3, Task: 3}, {Kind: 2, Task: 3}, {Kind: 4, Task: 3}, {Kind: 4}, {Kind: 2, Task: 1}, {Kind: 4, Task: 1}, {Kind: 2, Task: 2}, {Kind: 4, Task: 2}, {Kind: 5}},
	} {
		tasks := make([]api.Task, many+1)
		for k := range many {
			tasks[0].Kids = append(tasks[0].Kids, k+1)
		}
		o := begins(api.Conf{W: 1, D: 1, I: 1}, tasks, []int{0})
		o.rests(t, 1)
		if !slices.Equal(o.evs, want) {
			t.Errorf("%d kids: %v", many, o.evs)
		}
	}
}
