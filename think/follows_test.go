package think_test

import (
	"math"
	"slices"
	"testing"

	"poacher/api"
	"poacher/think"
)

// emptied does what a stack does till it is empty, asking at each Do that what may be stays so, and that there is one less left.
func emptied(t *testing.T, f []api.Task, s []api.Item) (acts []api.Act) {
	t.Helper()
	left := think.Left(f, s)
	for n := left; n > 0; n-- {
		if !think.May(f, s) || think.Left(f, s) != n || len(s) == 0 {
			t.Fatalf("%v: %v with %d left of %d", f, s, n, left)
		}
		acts = append(acts, think.Next(f, s))
		s = think.Do(f, s)
	}
	if len(s) != 0 || !think.May(f, s) || think.Left(f, s) != 0 || len(think.Do(f, s)) != 0 {
		t.Fatalf("%v: %v behind %d", f, s, left)
	}
	return acts
}

// little are all lists of up to three tasks, of work up to 2, where each is a root, or the kid of one ahead.
func little() [][]api.Task {
	shapes := [][][]int{
		{nil}, {nil, nil}, {{1}, nil}, {nil, nil, nil}, {{1}, nil, nil}, {{2}, nil, nil}, {nil, {2}, nil}, {{1}, {2}, nil}, {{1, 2}, nil, nil}, {{2, 1}, nil, nil},
	}
	var out [][]api.Task
	for _, kids := range shapes {
		for code := range 27 {
			t := make([]api.Task, len(kids))
			for k := range kids {
				t[k] = api.Task{Work: code % 3, Kids: kids[k]}
				code /= 3
			}
			if code == 0 {
				out = append(out, t)
			}
		}
	}
	return out
}

func TestAllLittleStacks(t *testing.T) { // P17.5: of none, one and two items
	for _, f := range little() {
		emptied(t, f, nil)
		for _, a := range items(f) {
			emptied(t, f, []api.Item{a})
			for _, b := range items(f) {
				emptied(t, f, []api.Item{a, b})
			}
		}
	}
}

func drawn(seed int) func(n int) int {
	x := uint64(seed)*0x9e3779b97f4a7c15 + 1
	return func(n int) int {
		x = x*6364136223846793005 + 1442695040888963407
		return int((x >> 33) % uint64(n))
	}
}

// drawnTasks are up to 30, each of drawn work, and a root or the kid of a drawn one ahead; kids are told in a drawn order.
func drawnTasks(draw func(n int) int) []api.Task {
	t := make([]api.Task, 1+draw(30))
	for k := range t {
		t[k].Work = draw(21) * draw(2)
		if p := draw(k + 1); p < k {
			t[p].Kids = slices.Insert(t[p].Kids, draw(len(t[p].Kids)+1), k)
		}
	}
	return t
}

func drawnStack(draw func(n int) int, t []api.Task) []api.Item {
	all := items(t)
	s := make([]api.Item, draw(7))
	for i := range s {
		s[i] = all[draw(len(all))]
	}
	return s
}

func TestDrawnStacks(t *testing.T) { // P17.5: some start more in between
	for seed := range 300 {
		draw := drawn(seed)
		f := drawnTasks(draw)
		s := drawnStack(draw, f)
		for range 40 {
			left := think.Left(f, s)
			k := draw(len(f))
			if draw(4) == 0 {
				s, left = think.Start(f, s, k), left+f[k].Work+len(f[k].Kids)+1
			} else {
				s, left = think.Do(f, s), max(left-1, 0)
			}
			if !think.May(f, s) || think.Left(f, s) != left {
				t.Fatalf("%d: %v, %v: %d, not %d left", seed, f, s, think.Left(f, s), left)
			}
		}
		emptied(t, f, s)
	}
}

// run is what a task does that is started: as often as its work, kid by kid, and its end.
func run(t []api.Task, k int) []api.Act {
	out := slices.Repeat([]api.Act{{Kind: api.AcTick, Task: k}}, t[k].Work)
	for _, kid := range t[k].Kids {
		out = append(out, api.Act{Kind: api.AcSpawn, Task: kid})
	}
	return append(out, api.Act{Kind: api.AcDone, Task: k})
}

func TestAStartedTaskIsRun(t *testing.T) { // P17.5: what is below it stays as it was
	for seed := range 100 {
		draw := drawn(seed)
		f := drawnTasks(draw)
		under := drawnStack(draw, f)
		for k := range f {
			s := think.Start(f, under, k)
			for i, want := range run(f, k) {
				if got := think.Next(f, s); got != want || !same(s[:len(s)-1], under) {
					t.Fatalf("%v, %d: %v does %+v at %d, want %+v above %v", f, k, s, got, i, want, under)
				}
				s = think.Do(f, s)
			}
			if !same(s, under) {
				t.Fatalf("%v, %d: %v, not %v", f, k, s, under)
			}
		}
	}
}

func TestAStackDoesWhatEachItemDoes(t *testing.T) { // P17.5: the last one ahead
	f := mixed()
	for _, a := range items(f) {
		for _, b := range items(f) {
			want := append(emptied(t, f, []api.Item{b}), emptied(t, f, []api.Item{a})...)
			if got := emptied(t, f, []api.Item{a, b}); !slices.Equal(got, want) {
				t.Fatalf("%v, %v: %v, want %v", a, b, got, want)
			}
		}
	}
}

func TestLongListsComeToAnEnd(t *testing.T) { // P1, R1
	f := mixed()
	s := slices.Repeat([]api.Item{{}}, 1<<18)
	if !think.May(f, s) || think.Left(f, s) != 7<<18 || think.Next(f, s).Kind != api.AcTick || len(think.Start(f, s, 3)) != 1<<18+1 || !think.Same(s, s) {
		t.Error("a long stack")
	}
	if then := think.Do(f, s); len(then) != 1<<18 || then[1<<18-1].Done != 1 || !same(then[:1<<18-1], s[1:]) {
		t.Error("a long stack's Do")
	}
	s[0].Done = -1
	stays(t, f, s)
	ring := chain(30)
	ring[29].Kids = []int{0}
	for _, f := range [][]api.Task{ring, {{Kids: []int{0}}}, make([]api.Task, 1<<20), {{Kids: make([]int, 1<<20)}}, {{Kids: slices.Repeat([]int{1}, 1<<20)}, {}}} {
		for _, s := range [][]api.Item{nil, {{}}, {{Kid: 1}}, slices.Repeat([]api.Item{{Task: 1}}, 1<<10)} {
			if think.May(f, s) {
				t.Error("wrong tasks")
			}
			stays(t, f, s)
		}
	}
}

func TestNonePanics(t *testing.T) { // P1, R1: all that may be wrong at once
	for _, f := range slices.Concat(right(), none(), wrong()) {
		for _, n := range far() {
			s := []api.Item{{Task: n, Done: n, Kid: n}, {Task: 0, Done: n, Kid: -n}, {Task: -n, Kid: n}}
			for i := range s {
				stays(t, f, s[i:])
				think.Start(f, s[i:], n)
				think.Same(s[i:], s)
			}
		}
	}
}

// roomyTasks is t with room behind each list that is not of it; a call that lays something there is seen.
func roomyTasks(t []api.Task) []api.Task {
	out := make([]api.Task, len(t), len(t)+5)
	for i, task := range t {
		kids := slices.Repeat([]int{-7}, len(task.Kids)+5)
		copy(kids, task.Kids)
		out[i] = api.Task{Work: task.Work, Kids: kids[:len(task.Kids)]}
	}
	return out
}

// roomy is s with so much room behind it.
func roomy(s []api.Item, behind int) []api.Item {
	return append(make([]api.Item, 0, len(s)+behind), s...)
}

// wholeTasks is all of t, also what lies behind the ends of its lists.
func wholeTasks(t []api.Task) []api.Task {
	out := slices.Clone(t[:cap(t)])
	for i := range out {
		out[i].Kids = slices.Clone(out[i].Kids[:cap(out[i].Kids)])
	}
	return out
}

func sameTasks(a, b []api.Task) bool {
	return slices.EqualFunc(a, b, func(x, y api.Task) bool { return x.Work == y.Work && slices.Equal(x.Kids, y.Kids) })
}

func whole(s []api.Item) []api.Item { return slices.Clone(s[:cap(s)]) }

// spoil changes all of a stack's memory.
func spoil(s []api.Item) {
	for i := range s[:cap(s)] {
		s[:cap(s)][i] = api.Item{Task: 88, Done: 88, Kid: 88}
	}
}

func spoilTasks(t []api.Task) {
	for i := range t[:cap(t)] {
		for j := range t[:cap(t)][i].Kids {
			t[:cap(t)][i].Kids[j] = 88
		}
		t[:cap(t)][i] = api.Task{Work: 88, Kids: []int{88}}
	}
}

// some are few stacks of mixed that may be, where each of what may be done is, and few that may not be.
func some() [][]api.Item {
	return [][]api.Item{
		nil, {}, {{}}, {{Done: 3}}, {{Done: 3, Kid: 3}}, {{Task: 3}}, {{Task: 6}, {Task: 1, Done: 1}}, {{Done: 3, Kid: 1}, {Task: 2, Kid: 1}, {Task: 4, Done: 1}}, many(mixed()),
		{{Task: -1}}, {{Task: 7}, {}}, {{}, {Done: 4}}, {{Done: 1, Kid: 1}, {Task: 3}},
	}
}

// someTasks are few that those are stacks of, and few that may not be.
func someTasks() [][]api.Task {
	return [][]api.Task{mixed(), chain(7), with(6, 21), with(0, 3, 2, 5, 0), make([]api.Task, 31), nil}
}

// ask calls all.
func ask(f []api.Task, s []api.Item) {
	think.May(f, s)
	think.Next(f, s)
	think.Do(f, s)
	think.Left(f, s)
	think.Same(s, s)
	for k := -1; k <= len(f); k++ {
		think.Start(f, s, k)
	}
}

func TestHandedInStays(t *testing.T) { // R3: also what lies behind the end
	for _, first := range someTasks() {
		for _, stack := range some() {
			for _, behind := range []int{0, 1, 40} {
				f, s := roomyTasks(first), roomy(stack, behind)
				wasF, wasS := wholeTasks(f), whole(s)
				ask(f, s)
				if !sameTasks(wholeTasks(f), wasF) || !same(whole(s), wasS) {
					t.Fatalf("%v, %v are now %v, %v", wasF, wasS, wholeTasks(f), whole(s))
				}
			}
		}
	}
}

func TestAnswersAreTheCallersOwn(t *testing.T) { // R3: also where the stack stays as it was
	calls := []func(f []api.Task, s []api.Item) []api.Item{think.Do}
	for _, k := range []int{math.MinInt, -1, 0, 3, 6, 7, math.MaxInt} {
		calls = append(calls, func(f []api.Task, s []api.Item) []api.Item { return think.Start(f, s, k) })
	}
	for n, call := range calls {
		for _, first := range someTasks() {
			for _, stack := range some() {
				for _, behind := range []int{0, 1, 40} {
					f, s := roomyTasks(first), roomy(stack, behind)
					one, two := call(f, s), call(f, s)
					want, was := slices.Clone(one), whole(s)
					spoil(two)
					if !same(one, want) || !same(whole(s), was) || !sameTasks(f, first) {
						t.Fatalf("call %d of %v: an answer changes another one, or what was handed in", n, stack)
					}
					spoil(s)
					spoilTasks(f)
					if !same(one, want) {
						t.Fatalf("call %d of %v: what was handed in changes the answer", n, stack)
					}
				}
			}
		}
	}
}

// told are all answers, as one list of numbers.
func told(f []api.Task, s []api.Item) []int {
	act := think.Next(f, s)
	out := []int{act.Kind, act.Task, think.Left(f, s)}
	if think.May(f, s) {
		out = append(out, 1)
	}
	list := func(l []api.Item) {
		for _, i := range l {
			out = append(out, i.Task, i.Done, i.Kid)
		}
		out = append(out, -9)
	}
	list(think.Do(f, s))
	for k := -1; k <= len(f); k++ {
		list(think.Start(f, s, k))
	}
	return out
}

func TestTheSameIsAnsweredAgain(t *testing.T) { // R5: whatever was asked before
	for _, f := range someTasks() {
		for _, s := range some() {
			first := told(f, s)
			for _, other := range someTasks() {
				for _, stack := range some() {
					ask(other, stack)
				}
				if again := told(f, s); !slices.Equal(first, again) {
					t.Fatalf("%v, %v: %v, then %v", f, s, first, again)
				}
			}
		}
	}
}

func TestNilIsAsGoodAsEmpty(t *testing.T) { // R6
	for _, f := range someTasks() {
		if !slices.Equal(told(f, nil), told(f, []api.Item{})) {
			t.Fatalf("%v", f)
		}
	}
	for _, s := range some() {
		if !slices.Equal(told(nil, s), told([]api.Task{}, s)) {
			t.Fatalf("%v", s)
		}
	}
	if a, b := []api.Task{{Work: 1}, {}}, []api.Task{{Work: 1, Kids: []int{}}, {Kids: []int{}}}; !slices.Equal(told(a, many(a)), told(b, many(a))) {
		t.Error("kids")
	}
}
