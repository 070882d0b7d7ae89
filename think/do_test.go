package think_test

import (
	"slices"
	"testing"

	"poacher/api"
	"poacher/think"
)

// noAct is what is done where there is nothing to do.
var noAct = api.Act{Kind: 0, Task: 0}

// place is an item, what a stack does that has it last, what it is then, and how often all in all. Gone is: the stack is without it.
type place struct {
	i    api.Item
	act  api.Act
	then api.Item
	gone bool
	left int
}

// places are all items of those tasks, told from the end on: the last one leaves 1 to do, each one ahead of it 1 more.
func places(t []api.Task) []place {
	var out []place
	for k, task := range t {
		kids := len(task.Kids)
		p := place{i: api.Item{Task: k, Done: task.Work, Kid: kids}, act: api.Act{Kind: 3, Task: k}, gone: true, left: 1}
		out = append(out, p)
		for n := kids - 1; n >= 0; n-- {
			p = place{i: api.Item{Task: k, Done: task.Work, Kid: n}, act: api.Act{Kind: 2, Task: task.Kids[n]}, then: p.i, left: p.left + 1}
			out = append(out, p)
		}
		for n := task.Work - 1; n >= 0; n-- {
			p = place{i: api.Item{Task: k, Done: n}, act: api.Act{Kind: 1, Task: k}, then: p.i, left: p.left + 1}
			out = append(out, p)
		}
	}
	return out
}

// stack is one that may be, and how much it has left.
type stack struct {
	s    []api.Item
	left int
}

// below are stacks for an item to be put behind: of none, one and many.
func below(t []api.Task) []stack {
	all := places(t)
	var out []stack
	for _, n := range []int{0, 1, 2, 3, len(all)} {
		var b stack
		for i := range n {
			p := all[(7*i+n)%len(all)]
			b = stack{append(b.s, p.i), b.left + p.left}
		}
		out = append(out, b)
	}
	return out
}

func TestEachPlaceOfEachTask(t *testing.T) { // P17.2, P17.3, P17.4: whatever is below it
	for _, f := range right() {
		for _, b := range below(f) {
			for _, p := range places(f) {
				s, then, left := append(slices.Clone(b.s), p.i), append(slices.Clone(b.s), p.then), b.left+p.left
				if p.gone {
					then = b.s
				}
				if got := think.Next(f, s); got != p.act {
					t.Fatalf("Next(%v, %v) = %+v, want %+v", f, s, got, p.act)
				}
				if got := think.Do(f, s); !same(got, then) {
					t.Fatalf("Do(%v, %v) = %v, want %v", f, s, got, then)
				}
				if got := think.Left(f, s); got != left {
					t.Fatalf("Left(%v, %v) = %d, want %d", f, s, got, left)
				}
			}
		}
	}
}

func TestByHand(t *testing.T) { // P17.2, P17.3, P17.4: of tasks of work, of kids, of both and of neither
	f := mixed()
	for _, x := range []struct {
		s    []api.Item
		act  api.Act
		then []api.Item
		left int
	}{
		{nil, api.Act{}, nil, 0}, {[]api.Item{}, api.Act{}, nil, 0},
		{[]api.Item{{}}, api.Act{Kind: api.AcTick, Task: 0}, []api.Item{{Done: 1}}, 7},
		{[]api.Item{{Done: 2}}, api.Act{Kind: api.AcTick, Task: 0}, []api.Item{{Done: 3}}, 5},
		{[]api.Item{{Done: 3}}, api.Act{Kind: api.AcSpawn, Task: 2}, []api.Item{{Done: 3, Kid: 1}}, 4},
		{[]api.Item{{Done: 3, Kid: 1}}, api.Act{Kind: api.AcSpawn, Task: 5}, []api.Item{{Done: 3, Kid: 2}}, 3},
		{[]api.Item{{Done: 3, Kid: 2}}, api.Act{Kind: api.AcSpawn, Task: 1}, []api.Item{{Done: 3, Kid: 3}}, 2},
		{[]api.Item{{Done: 3, Kid: 3}}, api.Act{Kind: api.AcDone, Task: 0}, nil, 1},
		{[]api.Item{{Task: 1, Done: 1}}, api.Act{Kind: api.AcTick, Task: 1}, []api.Item{{Task: 1, Done: 2}}, 2},
		{[]api.Item{{Task: 1, Done: 2}}, api.Act{Kind: api.AcDone, Task: 1}, nil, 1},
		{[]api.Item{{Task: 2}}, api.Act{Kind: api.AcSpawn, Task: 4}, []api.Item{{Task: 2, Kid: 1}}, 3},
		{[]api.Item{{Task: 2, Kid: 1}}, api.Act{Kind: api.AcSpawn, Task: 3}, []api.Item{{Task: 2, Kid: 2}}, 2},
		{[]api.Item{{Task: 2, Kid: 2}}, api.Act{Kind: api.AcDone, Task: 2}, nil, 1},
		{[]api.Item{{Task: 3}}, api.Act{Kind: api.AcDone, Task: 3}, nil, 1},
		{[]api.Item{{Task: 5, Done: 19}}, api.Act{Kind: api.AcTick, Task: 5}, []api.Item{{Task: 5, Done: 20}}, 2},
		{[]api.Item{{Task: 6}}, api.Act{Kind: api.AcDone, Task: 6}, nil, 1},
		{[]api.Item{{}, {Task: 3}}, api.Act{Kind: api.AcDone, Task: 3}, []api.Item{{}}, 8},
		{[]api.Item{{Task: 3}, {}}, api.Act{Kind: api.AcTick, Task: 0}, []api.Item{{Task: 3}, {Done: 1}}, 8},
		{[]api.Item{{Done: 3, Kid: 1}, {Task: 2, Kid: 1}, {Task: 4, Done: 1}}, api.Act{Kind: api.AcSpawn, Task: 6}, []api.Item{{Done: 3, Kid: 1}, {Task: 2, Kid: 1}, {Task: 4, Done: 1, Kid: 1}}, 7},
		{[]api.Item{{}, {}, {}}, api.Act{Kind: api.AcTick, Task: 0}, []api.Item{{}, {}, {Done: 1}}, 21}, // the same one thrice
	} {
		if act, then, left := think.Next(f, x.s), think.Do(f, x.s), think.Left(f, x.s); act != x.act || !same(then, x.then) || left != x.left {
			t.Errorf("%v: %+v, %v, %d", x.s, act, then, left)
		}
	}
}

func TestNothingIsDoneOfNothing(t *testing.T) { // P17.2, P17.3, P17.4
	for _, f := range slices.Concat(right(), none(), wrong()) {
		for _, s := range [][]api.Item{nil, {}} {
			if act, then, left := think.Next(f, s), think.Do(f, s), think.Left(f, s); act != noAct || len(then) != 0 || left != 0 {
				t.Fatalf("%v, %v: %+v, %v, %d", f, s, act, then, left)
			}
		}
	}
}

// stays asks that nothing is done of what may not be, and nothing is started.
func stays(t *testing.T, f []api.Task, s []api.Item) {
	t.Helper()
	if act, then, left := think.Next(f, s), think.Do(f, s), think.Left(f, s); act != noAct || !same(then, s) || left != 0 {
		t.Fatalf("%v, %v: %+v, %v, %d", f, s, act, then, left)
	}
	for _, k := range []int{0, 1, len(f) - 1, -1, len(f)} {
		if then := think.Start(f, s, k); !same(then, s) {
			t.Fatalf("Start(%v, %v, %d) = %v", f, s, k, then)
		}
	}
}

func TestNothingIsDoneOfWrongItems(t *testing.T) { // P17.2, P17.3, P17.4: whatever the last item is
	for _, f := range right() {
		for _, i := range otherItems(f) {
			for _, s := range around(f, i) {
				stays(t, f, s)
			}
		}
	}
	for _, f := range none() {
		for _, k := range upTo(2) {
			stays(t, f, []api.Item{{Task: k}})
		}
	}
}

func TestAWrongItemIsWrongAheadOfEach(t *testing.T) { // P17.2, P17.3, P17.4: the last one has work left, a kid, or neither
	f := mixed()
	for _, bad := range []api.Item{{Task: -1}, {Task: 7}, {Done: -1}, {Done: 4}, {Done: 3, Kid: 4}, {Done: 3, Kid: -1}, {Done: 2, Kid: 1}} {
		for _, i := range items(f) {
			stays(t, f, []api.Item{bad, i})
			stays(t, f, []api.Item{{}, bad, {Task: 3}, i})
			stays(t, f, []api.Item{i, bad})
		}
	}
}

func TestNothingIsDoneOfWrongTasks(t *testing.T) { // P17.2, P17.3, P17.4
	for _, f := range wrong() {
		for _, s := range [][]api.Item{nil, {{}}, {{Task: 1}}, {{Task: 1, Done: 2}}, {{Task: 3}}, {{Done: 3}}, {{Done: 3, Kid: 1}, {Task: 6}}, many(mixed())} {
			stays(t, f, s)
		}
	}
}

func TestStart(t *testing.T) { // P17.3: of each task; whatever is below it, and whether it is there already
	for _, f := range slices.Concat(right(), none()) {
		stacks := [][]api.Item{nil, {}, many(f)}
		for _, i := range items(f) {
			stacks = append(stacks, []api.Item{i}, []api.Item{i, {}}, []api.Item{{}, {}, i})
		}
		for _, s := range stacks {
			for _, k := range append(upTo(30), len(f)-1, len(f)) {
				want := s
				if 0 <= k && k < len(f) {
					want = append(slices.Clone(s), api.Item{Task: k, Done: 0, Kid: 0})
				}
				if got := think.Start(f, s, k); !same(got, want) {
					t.Fatalf("Start(%v, %v, %d) = %v, want %v", f, s, k, got, want)
				}
			}
		}
	}
}

func TestStartByHand(t *testing.T) { // P17.3
	f := []api.Task{{Work: 2, Kids: []int{2}}, {}, {Work: 1}}
	for _, x := range []struct {
		s    []api.Item
		k    int
		want []api.Item
	}{
		{nil, 0, []api.Item{{}}}, {nil, 2, []api.Item{{Task: 2}}}, {nil, 3, nil}, {nil, -1, nil}, {[]api.Item{}, 1, []api.Item{{Task: 1}}},
		{[]api.Item{{Done: 2, Kid: 1}}, 2, []api.Item{{Done: 2, Kid: 1}, {Task: 2}}},
		{[]api.Item{{Done: 1}}, 0, []api.Item{{Done: 1}, {}}},
		{[]api.Item{{Done: 1}}, 3, []api.Item{{Done: 1}}},
		{[]api.Item{{Done: 3}}, 0, []api.Item{{Done: 3}}}, // that may not be
		{[]api.Item{{Done: 1, Kid: 1}, {}}, 1, []api.Item{{Done: 1, Kid: 1}, {}}},
	} {
		if got := think.Start(f, x.s, x.k); !same(got, x.want) {
			t.Errorf("Start(%v, %d) = %v", x.s, x.k, got)
		}
	}
}

func TestTheChaptersExample(t *testing.T) { // P17.2, P17.3: a task of work 2 with one kid
	f := []api.Task{{Work: 2, Kids: []int{1}}, {}}
	s := think.Start(f, nil, 0)
	for i, want := range []api.Act{{Kind: api.AcTick}, {Kind: api.AcTick}, {Kind: api.AcSpawn, Task: 1}, {Kind: api.AcDone}, {}} {
		if got := think.Next(f, s); got != want {
			t.Errorf("%d: %+v", i, got)
		}
		if got := think.Left(f, s); got != 4-i {
			t.Errorf("%d: %d left", i, got)
		}
		s = think.Do(f, s)
	}
	if len(s) != 0 {
		t.Errorf("%v", s)
	}
}
