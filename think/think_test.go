package think_test

import (
	"math"
	"slices"
	"testing"

	"poacher/api"
	"poacher/think"
)

// far are numbers that no item may have, at any of its fields; narrower kinds would take some of them for small ones.
func far() []int {
	return []int{
		math.MinInt, math.MinInt + 1, math.MinInt + 2, -1 << 62, math.MinInt32, -1 << 32, -1<<32 + 1, -1<<32 + 2, -1 << 16, -256, -255, -254, -32, -31, -30, -21, -20, -3, -2, -1,
		31, 32, 64, 128, 256, 257, 258, 1 << 16, 1<<16 + 1, math.MaxInt32, 1 << 32, 1<<32 + 1, 1<<32 + 2, 1 << 62, math.MaxInt - 1, math.MaxInt,
	}
}

// upTo are the numbers from 0 to n, and those that no item may have.
func upTo(n int) []int {
	var out []int
	for i := range n + 1 {
		out = append(out, i)
	}
	return append(out, far()...)
}

// mixed has tasks of work 0, of no kids, of both, and of neither; kids are told rising and falling.
func mixed() []api.Task {
	return []api.Task{{Work: 3, Kids: []int{2, 5, 1}}, {Work: 2}, {Kids: []int{4, 3}}, {}, {Work: 1, Kids: []int{6}}, {Work: 20}, {}}
}

// chain are n tasks, each the kid of the one ahead.
func chain(n int) []api.Task {
	out := make([]api.Task, n)
	for i := range n {
		out[i].Work = (5*i + 2) % 21
		if i+1 < n {
			out[i].Kids = []int{i + 1}
		}
	}
	return out
}

// broad are n tasks, all others kids of the first one, told in falling order.
func broad(n int) []api.Task {
	out := make([]api.Task, n)
	out[0].Work = 20
	for k := n - 1; k > 0; k-- {
		out[0].Kids = append(out[0].Kids, k)
	}
	return out
}

// right are tasks that may be, some at the limits.
func right() [][]api.Task {
	return [][]api.Task{
		{{}}, {{Work: 1}}, {{Work: 20}}, {{Kids: []int{}}}, {{Kids: []int{1}}, {}}, {{Work: 2, Kids: []int{2}}, {Work: 1}, {}},
		mixed(), chain(3), chain(30), broad(4), broad(30), make([]api.Task, 30),
	}
}

// none are lists of no task.
func none() [][]api.Task { return [][]api.Task{nil, {}} }

// with is mixed, with one task's work, or kids, told otherwise.
func with(i, work int, kids ...int) []api.Task {
	out := mixed()
	out[i] = api.Task{Work: work, Kids: kids}
	return out
}

// wrong are tasks that may not be, for each of the reasons that there are: the stacks of mixed would be right otherwise, but for what is told of the one task.
func wrong() [][]api.Task {
	out := [][]api.Task{append(mixed(), make([]api.Task, 24)...), append(mixed(), make([]api.Task, 25)...), append(mixed(), make([]api.Task, 1000)...), make([]api.Task, 31), chain(31), broad(31)}
	for _, n := range append(far(), 21, 22, 23) {
		out = append(out, with(0, n, 2, 5, 1), with(3, n), with(6, n))
	}
	for _, n := range append(far(), 7, 8) {
		out = append(out, with(0, 3, n, 5, 1), with(0, 3, 2, n, 1), with(0, 3, 2, 5, n), with(6, 0, n))
	}
	return append(out,
		with(0, 3, 2, 5, 0), with(2, 0, 2, 3), with(6, 0, 6), // its own kid
		with(2, 0, 4, 0), with(4, 1, 2), with(6, 0, 5), // one ahead
		with(0, 3, 2, 2, 1), with(0, 3, 2, 5, 2), with(2, 0, 3, 3), // twice of one
		with(1, 2, 2), with(1, 2, 6), with(0, 3, 2, 5, 6), with(3, 0, 5), // twice of two
		[]api.Task{{Kids: []int{1}}, {Kids: []int{0}}},
	)
}

// items are all that a stack of those tasks may have, told without what is wrong.
func items(t []api.Task) []api.Item {
	var out []api.Item
	for k, task := range t {
		for done := range task.Work {
			out = append(out, api.Item{Task: k, Done: done})
		}
		for kid := range len(task.Kids) + 1 {
			out = append(out, api.Item{Task: k, Done: task.Work, Kid: kid})
		}
	}
	return out
}

// otherItems are those, of a grid that goes beyond all limits, that are none of items.
func otherItems(t []api.Task) []api.Item {
	may := map[api.Item]bool{}
	for _, i := range items(t) {
		may[i] = true
	}
	var out []api.Item
	add := func(i api.Item) {
		if !may[i] {
			out = append(out, i)
		}
	}
	for _, k := range upTo(30) {
		add(api.Item{Task: k})
		add(api.Item{Task: k, Done: k, Kid: k})
	}
	for k, task := range t {
		kids := len(task.Kids)
		for _, done := range append(far(), task.Work-1, task.Work, task.Work+1, 0, 20, 21) {
			for _, kid := range append(far(), kids-1, kids, kids+1, 0, 29, 30) {
				add(api.Item{Task: k, Done: done, Kid: kid})
			}
		}
	}
	return out
}

// around are stacks with that item, alone, first, in the middle and last; the others may be.
func around(t []api.Task, i api.Item) [][]api.Item {
	all := items(t)
	a, b, c := all[0], all[len(all)/2], all[len(all)-1]
	return [][]api.Item{{i}, {i, c}, {a, i}, {i, b, a, c}, {c, a, i, b, a}, {b, c, a, i}}
}

// many is a stack of all items, twice over.
func many(t []api.Task) []api.Item { return slices.Concat(items(t), items(t)) }

func same(a, b []api.Item) bool { return slices.Equal(a, b) }

func TestMayOfRightOnes(t *testing.T) { // P17.1: none, one and many, at each of an item's places
	for _, f := range slices.Concat(right(), none()) {
		for _, s := range [][]api.Item{nil, {}, many(f)} {
			if !think.May(f, s) {
				t.Fatalf("May(%v, %v) is false", f, s)
			}
		}
		for _, i := range items(f) {
			for _, s := range around(f, i) {
				if !think.May(f, s) {
					t.Fatalf("May(%v, %v) is false", f, s)
				}
			}
		}
	}
}

func TestMayOfWrongItems(t *testing.T) { // P17.1: wherever the wrong one is
	for _, f := range right() {
		for _, i := range otherItems(f) {
			for _, s := range around(f, i) {
				if think.May(f, s) {
					t.Fatalf("May(%v, %v) is true", f, s)
				}
			}
		}
	}
	for _, f := range none() {
		for _, k := range upTo(30) {
			for _, s := range [][]api.Item{{{Task: k}}, {{Task: k}, {}}, {{}, {Task: k}, {}}} {
				if think.May(f, s) {
					t.Fatalf("May(%v, %v) is true", f, s)
				}
			}
		}
	}
}

func TestMayOfWrongTasks(t *testing.T) { // P17.1: of each reason of forest's May, whatever the stack
	for _, f := range wrong() {
		for _, s := range [][]api.Item{nil, {}, {{}}, {{Task: 1}}, {{Task: 1, Done: 2}, {Task: 3}}, many(mixed())} {
			if think.May(f, s) {
				t.Fatalf("May(%v, %v) is true", f, s)
			}
		}
	}
}

func TestMayByHand(t *testing.T) { // P17.1: each field at its edges
	f := []api.Task{{Work: 2, Kids: []int{1, 2}}, {}, {Work: 1}}
	for _, x := range []struct {
		i    api.Item
		want bool
	}{
		{api.Item{}, true}, {api.Item{Task: 1}, true}, {api.Item{Task: 2}, true}, {api.Item{Task: 3}, false}, {api.Item{Task: -1}, false},
		{api.Item{Done: -1}, false}, {api.Item{Done: 1}, true}, {api.Item{Done: 2}, true}, {api.Item{Done: 3}, false},
		{api.Item{Done: 2, Kid: -1}, false}, {api.Item{Done: 2, Kid: 1}, true}, {api.Item{Done: 2, Kid: 2}, true}, {api.Item{Done: 2, Kid: 3}, false},
		{api.Item{Done: 1, Kid: 1}, false}, {api.Item{Done: 1, Kid: 2}, false}, {api.Item{Kid: 1}, false}, {api.Item{Done: 1, Kid: -1}, false},
		{api.Item{Task: 1, Done: 1}, false}, {api.Item{Task: 1, Done: -1}, false}, {api.Item{Task: 1, Kid: 1}, false}, {api.Item{Task: 1, Kid: -1}, false},
		{api.Item{Task: 2, Done: 1}, true}, {api.Item{Task: 2, Done: 1, Kid: 1}, false}, {api.Item{Task: 2, Done: 2}, false}, {api.Item{Task: 2, Kid: 1}, false},
	} {
		if got := think.May(f, []api.Item{{Task: 1}, x.i}); got != x.want {
			t.Errorf("May with %+v last is %v", x.i, got)
		}
		if got := think.May(f, []api.Item{x.i, {Task: 1}}); got != x.want {
			t.Errorf("May with %+v first is %v", x.i, got)
		}
	}
}

func TestAnItemNeedNotBeAKidOfTheOneAhead(t *testing.T) { // P17.1: nor another task than that; R4: more is not asked
	f := mixed()
	for _, a := range items(f) {
		for _, b := range items(f) {
			if s := []api.Item{a, b}; !think.May(f, s) || !think.May(f, append(s, a)) {
				t.Fatalf("May(%v, %v) is false", f, s)
			}
		}
	}
}

func TestSame(t *testing.T) { // P17.1, R6
	one, two := api.Item{Task: 1, Done: 2, Kid: 3}, api.Item{Task: 4, Done: 5, Kid: 6}
	behind := []api.Item{one, two}
	for _, x := range []struct {
		a, b []api.Item
		want bool
	}{
		{nil, nil, true}, {nil, []api.Item{}, true}, {[]api.Item{}, []api.Item{}, true}, {nil, []api.Item{{}}, false}, {[]api.Item{}, []api.Item{{}}, false},
		{[]api.Item{{}}, []api.Item{{}}, true}, {[]api.Item{{}}, []api.Item{{}, {}}, false}, {[]api.Item{one}, []api.Item{one}, true},
		{[]api.Item{one, two}, []api.Item{one, two}, true}, {[]api.Item{one, two}, []api.Item{two, one}, false},
		{[]api.Item{one, two}, []api.Item{one}, false}, {[]api.Item{one, two}, []api.Item{two}, false}, {[]api.Item{one, one}, []api.Item{one}, false},
		{[]api.Item{{Task: 1}}, []api.Item{{Done: 1}}, false}, {[]api.Item{{Done: 1}}, []api.Item{{Kid: 1}}, false},
		{[]api.Item{{Task: 1, Done: 2}}, []api.Item{{Task: 2, Done: 1}}, false}, {[]api.Item{{Done: 1, Kid: 2}}, []api.Item{{Done: 2, Kid: 1}}, false},
		{[]api.Item{{Task: 2}, {}}, []api.Item{{Task: 1}, {Task: 1}}, false},                                       // of the same sum
		{behind[:1], []api.Item{one}, true}, {behind[:1], []api.Item{one, one}[:1], true}, {behind[:0], nil, true}, // what lies behind the end is no item
	} {
		if think.Same(x.a, x.b) != x.want || think.Same(x.b, x.a) != x.want {
			t.Errorf("Same(%v, %v) is not %v", x.a, x.b, x.want)
		}
	}
}

func TestSameAsksForEachFieldAtEachPlace(t *testing.T) { // P17.1: also of what may not be
	for n := 1; n <= 9; n++ {
		var l []api.Item
		for i := range n {
			l = append(l, api.Item{Task: 7 * i, Done: -i, Kid: math.MaxInt - i})
		}
		if !think.Same(l, slices.Clone(l)) || think.Same(l, l[:n-1]) || think.Same(l[1:], l) {
			t.Fatalf("%v", l)
		}
		for i := range n {
			for _, by := range append(far(), 1, 2, 3, 7) {
				for field := range 3 {
					other := slices.Clone(l)
					*[]*int{&other[i].Task, &other[i].Done, &other[i].Kid}[field] += by
					if think.Same(l, other) || think.Same(other, l) {
						t.Fatalf("%v and %v are the same", l, other)
					}
				}
			}
		}
	}
}
