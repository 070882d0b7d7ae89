package forest_test

import (
	"math"
	"slices"
	"testing"

	"poacher/api"
	"poacher/forest"
)

// none are numbers that are no task's, however many there are; narrower kinds would take some of them for small ones.
func none() []int {
	return []int{
		math.MinInt, math.MinInt + 1, -1 << 62, math.MinInt32, -1 << 32, -1<<32 + 1, -1<<32 + 2, -256, -255, -31, -30, -2, -1,
		30, 31, 64, 256, 256 + 1, 256 + 2, 1 << 16, 1<<16 + 1, math.MaxInt32, 1 << 32, 1<<32 + 1, 1<<32 + 2, 1 << 62, math.MaxInt - 1, math.MaxInt,
	}
}

// tasks are n without kids, of work 1 each.
func tasks(n int) []api.Task {
	out := make([]api.Task, n)
	for i := range out {
		out[i].Work = 1
	}
	return out
}

// chain are n tasks, each the kid of the one ahead.
func chain(n int) []api.Task {
	out := tasks(n)
	for i := range n - 1 {
		out[i].Kids = []int{i + 1}
	}
	return out
}

// broad are n tasks, all others kids of the first one; back tells them in falling order.
func broad(n int, back bool) []api.Task {
	out := tasks(n)
	for k := 1; k < n; k++ {
		out[0].Kids = append(out[0].Kids, k)
	}
	if back {
		slices.Reverse(out[0].Kids)
	}
	return out
}

// pairs are n tasks, of which i has the kids 2i+1 and 2i+2.
func pairs(n int) []api.Task {
	out := tasks(n)
	for k := 1; k < n; k++ {
		out[(k-1)/2].Kids = append(out[(k-1)/2].Kids, k)
	}
	return out
}

// kept is t, and each list of it, in memory of their own.
func kept(t []api.Task) []api.Task {
	out := slices.Clone(t)
	for i := range out {
		out[i].Kids = slices.Clone(out[i].Kids)
	}
	return out
}

// grown are all forests of n tasks: each task is a root, or the kid of any one ahead; those of a task are told rising, and falling.
func grown(n int) [][]api.Task {
	all := [][]api.Task{nil}
	for k := range n {
		var next [][]api.Task
		for _, t := range all {
			for p := -1; p < k; p++ {
				more := append(kept(t), api.Task{Work: (7*k + p + 3) % 21})
				if p >= 0 {
					more[p].Kids = append(more[p].Kids, k)
				}
				next = append(next, more)
			}
		}
		all = next
	}
	for _, t := range all {
		back := kept(t)
		for i := range back {
			slices.Reverse(back[i].Kids)
		}
		all = append(all, back)
	}
	return all
}

// right are tasks that may be: none, one, as many as there may be, and all small forests.
func right() [][]api.Task {
	out := [][]api.Task{nil, {}, {{}}, {{Work: 20}}, {{Kids: []int{}}}, tasks(29), tasks(30), make([]api.Task, 30)}
	for _, n := range []int{2, 3, 29, 30} {
		out = append(out, chain(n), broad(n, false), broad(n, true), pairs(n))
	}
	for n := range 7 {
		out = append(out, grown(n)...)
	}
	return out
}

// wrong are tasks that may not be: too many, or one work, or one kid of some is wrong.
func wrong() [][]api.Task {
	out := [][]api.Task{tasks(31), make([]api.Task, 31), chain(31), broad(31, false), tasks(32), tasks(60), tasks(1000)}
	for _, base := range [][]api.Task{tasks(1), tasks(2), chain(2), chain(5), broad(5, true), tasks(30), chain(30), pairs(30)} {
		out = append(out, workWrong(base)...)
		out = append(out, kidWrong(base)...)
	}
	return append(out,
		[]api.Task{{Kids: []int{1, 1}}, {}},
		[]api.Task{{Kids: []int{1, 2, 1}}, {}, {}},
		[]api.Task{{Kids: []int{2}}, {Kids: []int{2}}, {}},
		[]api.Task{{Kids: []int{1, 2}}, {Kids: []int{2}}, {}},
		[]api.Task{{Kids: []int{3, 1}}, {Kids: []int{2}}, {Kids: []int{3}}, {}},
		[]api.Task{{}, {Kids: []int{29}}, 28: {Kids: []int{29}}, 29: {}},
		[]api.Task{{Kids: []int{1}}, {Kids: []int{0}}}, // each is the other one's kid
		[]api.Task{{Work: -1, Kids: []int{0, 0}}, {Work: 21, Kids: []int{-1, math.MaxInt}}},
	)
}

// workWrong are those of t with one work that may not be, at each place.
func workWrong(t []api.Task) [][]api.Task {
	var out [][]api.Task
	for i := range t {
		for _, work := range append(none(), 21, 22) {
			bad := kept(t)
			bad[i].Work = work
			out = append(out, bad)
		}
	}
	return out
}

// kidWrong are those of t with one kid more that may not be, at each place: itself, one ahead, one that is not there, one that somebody has.
func kidWrong(t []api.Task) [][]api.Task {
	var out [][]api.Task
	for i := range t {
		kids := append(none(), i, len(t), len(t)+1)
		for k := range i {
			kids = append(kids, k)
		}
		for _, other := range t {
			kids = append(kids, other.Kids...)
		}
		for _, k := range kids {
			last, first := kept(t), kept(t)
			last[i].Kids = append(last[i].Kids, k)
			first[i].Kids = append([]int{k}, first[i].Kids...)
			out = append(out, last, first)
		}
	}
	return out
}

// parents are whose kid each task is, looked for without package forest.
func parents(t []api.Task) []int {
	out := slices.Repeat([]int{-1}, len(t))
	for p, task := range t {
		for _, k := range task.Kids {
			out[k] = p
		}
	}
	return out
}

// downward is what is under r, told by a list of those that are still to come.
func downward(t []api.Task, r int) []int {
	var out []int
	for todo := []int{r}; len(todo) > 0; {
		k := todo[0]
		out = append(out, k)
		todo = append(slices.Clone(t[k].Kids), todo[1:]...)
	}
	return out
}

func TestMay(t *testing.T) { // P4.1
	for _, f := range right() {
		if !forest.May(f) {
			t.Fatalf("May(%v) is false", f)
		}
	}
	for _, f := range wrong() {
		if forest.May(f) {
			t.Fatalf("May(%v) is true", f)
		}
	}
}

func TestMayByNumber(t *testing.T) { // P4.1: 30 may be, 31 may not
	for n := range 64 {
		if got, want := forest.May(tasks(n)), n <= 30; got != want {
			t.Errorf("May of %d tasks is %v", n, got)
		}
	}
}

func TestMayByWork(t *testing.T) { // P4.1: from 0 to 20
	for work := -300; work <= 600; work++ {
		want := 0 <= work && work <= 20
		for _, f := range [][]api.Task{{{Work: work}}, {{Work: 3}, {Work: work}}, {{Work: work, Kids: []int{1}}, {}}} {
			if got := forest.May(f); got != want {
				t.Errorf("May(%v) is %v", f, got)
			}
		}
	}
}

func TestMayByKids(t *testing.T) { // P4.1: all lists of up to two kids each of three tasks
	var lists [][]int
	for a := -1; a <= 3; a++ {
		lists = append(lists, []int{a})
		for b := -1; b <= 3; b++ {
			lists = append(lists, []int{a, b})
		}
	}
	lists = append(lists, nil)
	for _, a := range lists {
		for _, b := range lists {
			for _, c := range lists {
				f := []api.Task{{Kids: a}, {Kids: b}, {Kids: c}}
				all := slices.Sorted(slices.Values(slices.Concat(a, b, c)))
				behind := func(i int, kids []int) bool {
					return !slices.ContainsFunc(kids, func(k int) bool { return k <= i || k > 2 })
				}
				want := behind(0, a) && behind(1, b) && behind(2, c) && len(slices.Compact(slices.Clone(all))) == len(all)
				if got := forest.May(f); got != want {
					t.Fatalf("May(%v) is %v", f, got)
				}
			}
		}
	}
}

func TestSame(t *testing.T) { // P4.1, R6
	for _, x := range []struct {
		a, b []api.Task
		want bool
	}{
		{nil, nil, true}, {nil, []api.Task{}, true}, {nil, []api.Task{{}}, false},
		{[]api.Task{{}}, []api.Task{{}}, true}, {[]api.Task{{}}, []api.Task{{Kids: []int{}}}, true},
		{[]api.Task{{}}, []api.Task{{}, {}}, false},
		{[]api.Task{{Work: 1}}, []api.Task{{Work: 2}}, false},
		{[]api.Task{{Work: 0}}, []api.Task{{Work: 1 << 32}}, false},
		{[]api.Task{{Work: 1}, {Work: 2}}, []api.Task{{Work: 2}, {Work: 1}}, false},
		{[]api.Task{{Kids: []int{1}}, {}}, []api.Task{{}, {}}, false},
		{[]api.Task{{Kids: []int{1}}, {}, {}}, []api.Task{{Kids: []int{2}}, {}, {}}, false},
		{[]api.Task{{Kids: []int{1, 2}}, {}, {}}, []api.Task{{Kids: []int{2, 1}}, {}, {}}, false},
		{[]api.Task{{Kids: []int{1, 2}}, {}, {}}, []api.Task{{Kids: []int{1}}, {}, {}}, false},
		{[]api.Task{{Kids: []int{1, 2}}, {}, {}}, []api.Task{{Kids: []int{1, 2}}, {}, {}}, true},
		{[]api.Task{{Kids: []int{1}}, {Kids: []int{2}}, {}}, []api.Task{{Kids: []int{1, 2}}, {}, {}}, false},
		{[]api.Task{{Kids: []int{1, 2}[:1]}}, []api.Task{{Kids: []int{1, 3}[:1]}}, true}, // what lies behind the end is no kid
	} {
		if got := forest.Same(x.a, x.b); got != x.want {
			t.Errorf("Same(%v, %v) = %v", x.a, x.b, got)
		}
		if got := forest.Same(x.b, x.a); got != x.want {
			t.Errorf("Same(%v, %v) = %v", x.b, x.a, got)
		}
	}
}

func TestSameIsAskedOfAnyTasks(t *testing.T) { // P4.1, R1: also of those that may not be
	for _, f := range append(right(), wrong()...) {
		if !forest.Same(f, f) || !forest.Same(f, kept(f)) {
			t.Fatalf("%v is not the same as itself", f)
		}
		for _, other := range differing(f) {
			if forest.Same(f, other) || forest.Same(other, f) {
				t.Fatalf("%v is the same as %v", f, other)
			}
		}
	}
}

// differing are lists that differ from f: by one task more or less, and at its first and last tasks by a work, a kid, or the order of kids.
func differing(f []api.Task) [][]api.Task {
	out := [][]api.Task{append(kept(f), api.Task{})}
	if len(f) == 0 {
		return out
	}
	out = append(out, kept(f)[1:], kept(f)[:len(f)-1])
	for _, i := range []int{0, len(f) - 1} {
		for _, change := range []func(x *api.Task){
			func(x *api.Task) { x.Work++ },
			func(x *api.Task) { x.Work ^= 1 << 40 },
			func(x *api.Task) { x.Kids = append(x.Kids, 3) },
			func(x *api.Task) { x.Kids = append([]int{0}, append(x.Kids, -1)...) },
		} {
			other := kept(f)
			change(&other[i])
			out = append(out, other)
		}
		out = append(out, kidsDiffering(f, i)...)
	}
	return out
}

func kidsDiffering(f []api.Task, i int) [][]api.Task {
	var out [][]api.Task
	for at, k := range f[i].Kids {
		other, less := kept(f), kept(f)
		other[i].Kids[at] = k + 1
		less[i].Kids = slices.Delete(less[i].Kids, at, at+1)
		out = append(out, other, less)
		if at > 0 && k != f[i].Kids[at-1] {
			turned := kept(f)
			turned[i].Kids[at], turned[i].Kids[at-1] = turned[i].Kids[at-1], turned[i].Kids[at]
			out = append(out, turned)
		}
	}
	return out
}

func TestSums(t *testing.T) { // P4.1
	for _, x := range []struct {
		f       []api.Task
		n, work int
	}{
		{nil, 0, 0}, {[]api.Task{{}}, 1, 0}, {[]api.Task{{Work: 20}}, 1, 20},
		{[]api.Task{{Work: 2, Kids: []int{1}}, {Work: 5}}, 2, 7},
		{tasks(30), 30, 30}, {slices.Repeat([]api.Task{{Work: 20}}, 30), 30, 600},
		{slices.Repeat([]api.Task{{Work: 20}}, 31), 0, 0}, {[]api.Task{{Work: 21}}, 0, 0}, {[]api.Task{{Work: 5, Kids: []int{0}}}, 0, 0},
	} {
		if n, work := forest.Sums(x.f); n != x.n || work != x.work {
			t.Errorf("Sums(%v) = %d, %d, want %d, %d", x.f, n, work, x.n, x.work)
		}
	}
	for _, f := range right() {
		want := 0
		for _, task := range f {
			want += task.Work
		}
		if n, work := forest.Sums(f); n != len(f) || work != want {
			t.Fatalf("Sums(%v) = %d, %d, want %d, %d", f, n, work, len(f), want)
		}
	}
}

func TestParent(t *testing.T) { // P4.2
	for _, f := range right() {
		for k, want := range parents(f) {
			if got := forest.Parent(f, k); got != want {
				t.Fatalf("Parent(%v, %d) = %d, want %d", f, k, got, want)
			}
		}
	}
}

func TestRoots(t *testing.T) { // P4.2
	for _, f := range right() {
		var want []int
		for k, p := range parents(f) {
			if p == -1 {
				want = append(want, k)
			}
		}
		if got := forest.Roots(f); !slices.Equal(got, want) {
			t.Fatalf("Roots(%v) = %v, want %v", f, got, want)
		}
	}
}

func TestUnder(t *testing.T) { // P4.3
	for _, f := range right() {
		for r := range f {
			if got, want := forest.Under(f, r), downward(f, r); !slices.Equal(got, want) {
				t.Fatalf("Under(%v, %d) = %v, want %v", f, r, got, want)
			}
		}
	}
}

func TestUnderDeepAndBroad(t *testing.T) { // P4.3: written out
	var rising, falling []int
	for k := range 30 {
		rising, falling = append(rising, k), append(falling, (30-k)%30)
	}
	for r := range 30 {
		if got := forest.Under(chain(30), r); !slices.Equal(got, rising[r:]) {
			t.Errorf("under %d of a chain: %v", r, got)
		}
	}
	if got := forest.Under(broad(30, false), 0); !slices.Equal(got, rising) {
		t.Errorf("under one with 29 kids: %v", got)
	}
	if got := forest.Under(broad(30, true), 0); !slices.Equal(got, falling) {
		t.Errorf("under one with 29 kids in falling order: %v", got)
	}
	if got := forest.Under(pairs(10), 0); !slices.Equal(got, []int{0, 1, 3, 7, 8, 4, 9, 2, 5, 6}) {
		t.Errorf("under one with pairs of kids: %v", got)
	}
}

func TestNoSuchTask(t *testing.T) { // P4.2, P4.3, R1
	for _, f := range right() {
		for _, k := range append(none(), len(f), len(f)+1) {
			if p, under := forest.Parent(f, k), forest.Under(f, k); p != -1 || len(under) != 0 {
				t.Fatalf("%v, %d: parent %d, under it %v", f, k, p, under)
			}
		}
	}
}

func TestWrongTasksTellNothing(t *testing.T) { // P4.1, P4.2, P4.3, P1, R1
	for _, f := range wrong() {
		if n, work := forest.Sums(f); n != 0 || work != 0 {
			t.Fatalf("Sums(%v) = %d, %d", f, n, work)
		}
		if roots := forest.Roots(f); len(roots) != 0 {
			t.Fatalf("Roots(%v) = %v", f, roots)
		}
		for _, k := range append([]int{0, 1, 2, len(f) - 1, len(f)}, none()...) {
			if p, under := forest.Parent(f, k), forest.Under(f, k); p != -1 || len(under) != 0 {
				t.Fatalf("%v, %d: parent %d, under it %v", f, k, p, under)
			}
		}
	}
}

func TestExample(t *testing.T) { // the chapter's example
	f := []api.Task{{Kids: []int{1, 3}}, {Kids: []int{2}}, {}, {}, {}}
	if got := forest.Roots(f); !slices.Equal(got, []int{0, 4}) {
		t.Errorf("roots %v", got)
	}
	if got := forest.Under(f, 0); !slices.Equal(got, []int{0, 1, 2, 3}) {
		t.Errorf("under 0: %v", got)
	}
}
