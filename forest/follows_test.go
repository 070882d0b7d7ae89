package forest_test

import (
	"math"
	"slices"
	"testing"

	"poacher/api"
	"poacher/forest"
)

func TestEachTaskIsUnderOneRoot(t *testing.T) { // P4.4
	for _, f := range right() {
		told := make([]int, len(f))
		for _, r := range forest.Roots(f) {
			for _, k := range forest.Under(f, r) {
				told[k]++
			}
		}
		for k, n := range told {
			if n != 1 {
				t.Fatalf("%v: task %d is %d times under a root", f, k, n)
			}
		}
	}
}

func TestAKidStandsBehindItsParent(t *testing.T) { // P4.4
	for _, f := range right() {
		for k := range f {
			p := forest.Parent(f, k)
			if p >= k || p < -1 {
				t.Fatalf("%v: the parent of %d is %d", f, k, p)
			}
			if p >= 0 && !slices.Contains(forest.Under(f, p), k) {
				t.Fatalf("%v: %d is not under its parent %d", f, k, p)
			}
		}
	}
}

func TestUnderIsOneAndWhatIsUnderItsKids(t *testing.T) { // P4.3, P4.4
	for _, f := range right() {
		for r := range f {
			want := []int{r}
			for _, k := range f[r].Kids {
				want = append(want, forest.Under(f, k)...)
			}
			if got := forest.Under(f, r); !slices.Equal(got, want) {
				t.Fatalf("Under(%v, %d) = %v, want %v", f, r, got, want)
			}
		}
	}
}

func TestAnyTasksComeToAnEnd(t *testing.T) { // P1, R1: tasks in a ring, and very many of them, or of their kids
	ring := chain(30)
	ring[29].Kids = []int{0}
	for _, f := range [][]api.Task{
		ring, {{Kids: []int{0}}}, {{Kids: []int{1}}, {Kids: []int{1}}},
		make([]api.Task, 1<<20), chain(1 << 20), {{Kids: make([]int, 1<<20)}}, {{Kids: slices.Repeat([]int{1}, 1<<20)}, {}},
	} {
		n, work := forest.Sums(f)
		if forest.May(f) || n != 0 || work != 0 || len(forest.Roots(f)) != 0 {
			t.Errorf("%d tasks may be", len(f))
		}
		for _, k := range []int{math.MinInt, -1, 0, 1, len(f) - 1, len(f), math.MaxInt} {
			if len(forest.Under(f, k)) != 0 || forest.Parent(f, k) != -1 {
				t.Errorf("%d tasks tell of %d", len(f), k)
			}
		}
	}
}

// roomy is t with room behind each list that is not of it; a call that lays something there is seen.
func roomy(t []api.Task) []api.Task {
	out := make([]api.Task, len(t), len(t)+40)
	for i, task := range t {
		kids := slices.Repeat([]int{-7}, len(task.Kids)+40)
		copy(kids, task.Kids)
		out[i] = api.Task{Work: task.Work, Kids: kids[:len(task.Kids)]}
	}
	return out
}

// whole is all of t, also what lies behind the ends of its lists.
func whole(t []api.Task) []api.Task {
	out := slices.Clone(t[:cap(t)])
	for i := range out {
		out[i].Kids = slices.Clone(out[i].Kids[:cap(out[i].Kids)])
	}
	return out
}

func alike(a, b []api.Task) bool {
	return slices.EqualFunc(a, b, func(x, y api.Task) bool { return x.Work == y.Work && slices.Equal(x.Kids, y.Kids) })
}

// some are few of those that may be, and few of those that may not be.
func some() [][]api.Task {
	out := [][]api.Task{nil, tasks(1), tasks(30), chain(30), broad(30, false), broad(30, true), pairs(30), tasks(31), chain(31)}
	return append(append(out, grown(4)...), kidWrong(chain(4))...)
}

func TestHandedInStays(t *testing.T) { // R3
	for _, first := range some() {
		f, other := roomy(first), roomy(first)
		was := whole(f)
		forest.May(f)
		forest.Same(f, other)
		forest.Same(other, f)
		forest.Sums(f)
		forest.Roots(f)
		for k := -1; k <= len(f); k++ {
			forest.Under(f, k)
			forest.Parent(f, k)
		}
		if !alike(whole(f), was) || !alike(whole(other), was) {
			t.Fatalf("%v is now %v", was, whole(f))
		}
	}
}

// lists are those calls that answer a list.
func lists(f []api.Task) []func() []int {
	out := []func() []int{func() []int { return forest.Roots(f) }}
	for r := range f {
		out = append(out, func() []int { return forest.Under(f, r) })
	}
	return out
}

func TestAnswerIsTheCallersOwn(t *testing.T) { // R3
	for _, first := range some() {
		f := roomy(first)
		was := whole(f)
		for _, ask := range lists(f) {
			got := ask()
			for i := range got[:cap(got)] {
				got[:cap(got)][i] = 4321
			}
			_ = append(got, 4321)
			if !alike(whole(f), was) {
				t.Fatalf("the answer changes what was handed in: %v is now %v", was, whole(f))
			}
		}
	}
}

func TestLaterChangesAreNotSeen(t *testing.T) { // R3
	for _, first := range some() {
		f := roomy(first)
		var got, want [][]int
		for _, ask := range lists(f) {
			got = append(got, ask())
			want = append(want, slices.Clone(got[len(got)-1]))
		}
		for i := range f {
			for at := range f[i].Kids[:cap(f[i].Kids)] {
				f[i].Kids[:cap(f[i].Kids)][at] = 1234
			}
			f[i].Work = 1234
		}
		if !slices.EqualFunc(got, want, slices.Equal[[]int]) {
			t.Fatalf("what was handed in changes the answers: %v are now %v", want, got)
		}
	}
}

func TestAnswersShareNothing(t *testing.T) { // R3, R5
	for _, f := range some() {
		for _, ask := range lists(f) {
			one, two := ask(), ask()
			if !slices.Equal(one, two) {
				t.Fatalf("%v: %v, then %v", f, one, two)
			}
			want := slices.Clone(two)
			for i := range one {
				one[i] = 4321
			}
			if !slices.Equal(two, want) || !slices.Equal(ask(), want) {
				t.Fatalf("%v: a change is seen in another answer", f)
			}
		}
	}
}

func TestNothingIsKept(t *testing.T) { // R5
	f := []api.Task{{Work: 2, Kids: []int{1, 3}}, {Work: 1, Kids: []int{2}}, {Work: 3}, {}, {Work: 1}}
	for _, other := range append([][]api.Task{nil}, some()...) {
		forest.May(other)
		forest.Sums(other)
		forest.Roots(other)
		forest.Under(other, 0)
		forest.Parent(other, 1)
		forest.Same(other, f)
		n, work := forest.Sums(f)
		if !forest.May(f) || n != 5 || work != 7 || forest.Parent(f, 3) != 0 ||
			!slices.Equal(forest.Roots(f), []int{0, 4}) || !slices.Equal(forest.Under(f, 1), []int{1, 2}) {
			t.Fatalf("an answer hangs on what was asked before: %v", other)
		}
	}
}
