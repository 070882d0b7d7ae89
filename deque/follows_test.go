package deque_test

import (
	"slices"
	"testing"

	"poacher/api"
	"poacher/deque"
	"poacher/push"
)

func TestExample(t *testing.T) { // the chapter's example
	for _, d := range rooms() {
		who := append(turns(4, 0), turns(4, 1)...)
		m, over, at := deque.Play(d, 1, pushes(7), who)
		want := []api.Frame{{Op: api.OpPush, Val: 7, Res: api.ResOk}, {Op: api.OpSteal, Who: 1, Val: 7, Res: api.ResOk}}
		l, is := push.List(api.Conf{W: 1, D: d, I: 1}, m, 0)
		if !slices.Equal(over, want) || !slices.Equal(at, idle(2)) || !is || len(l) > 0 {
			t.Errorf("room %d: %+v, %+v, %v, %v", d, over, at, l, is)
		}
	}
}

// someCalls are calls of all kinds, with more memory behind their end.
func someCalls(behind int) []api.Frame {
	l := append(pushes(7, 8), full(api.OpSteal, 4), full(api.OpPop, 4), api.Frame{Op: -1}, full(api.OpEnq, 5), api.Frame{Op: api.OpPush, Val: 9}, api.Frame{Op: api.OpSteal}, api.Frame{Op: api.OpPop})
	return append(make([]api.Frame, 0, len(l)+behind), l...)
}

func someWho(behind int) []int {
	l := slices.Concat(turns(9, 0), []int{1, 2, 1, -1, 3, 2, 0, 1, 1, 0, 2}, turns(9, 0), []int{2, 2, 1})
	return append(make([]int, 0, len(l)+behind), l...)
}

// someCells are those of a deque of room for 2 that has one number.
func someCells(behind int) api.Mem {
	l := alone(2, 5, 50)
	return append(make(api.Mem, 0, len(l)+behind), l...)
}

// whole is all of a list's memory, as it is now.
func whole[T any](l []T) []T { return slices.Clone(l[:cap(l)]) }

// spoil changes all of a list's memory.
func spoil[T any](l []T, to T) {
	for i := range l[:cap(l)] {
		l[:cap(l)][i] = to
	}
}

var (
	aCall  = api.Frame{Op: 77, Pc: 77, Who: 77, Val: 77, X: 77, Y: 77, Res: 77}
	myCall = api.Frame{Op: 88, Pc: 88, Who: 88, Val: 88, X: 88, Y: 88, Res: 88}
)

// roomsAndThieves are some that may be, and some that may not.
func roomsAndThieves() [][2]int {
	return [][2]int{{2, 2}, {1, 0}, {16, 8}, {3, 2}, {2, 9}, {2, -1}, {0, 0}}
}

func TestHandedInStays(t *testing.T) { // R3: also what lies behind the end
	for _, behind := range []int{0, 1, 40} {
		for _, x := range roomsAndThieves() {
			own, who := someCalls(behind), someWho(behind)
			wasOwn, wasWho := whole(own), whole(who)
			deque.Play(x[0], x[1], own, who)
			if !slices.Equal(whole(own), wasOwn) || !slices.Equal(whole(who), wasWho) {
				t.Fatalf("Play(%d, %d): %v, %v", x[0], x[1], whole(own), whole(who))
			}
		}
		for _, d := range []int{2, 4, 3} {
			m, at := someCells(behind), someCalls(behind)
			wasM, wasAt := whole(m), whole(at)
			deque.Rest(d, m, at)
			for _, f := range at {
				for pc := range 7 {
					f.Pc = pc
					deque.Step(api.Conf{W: 1, D: d, I: 1}, m, f)
				}
			}
			if !slices.Equal(whole(m), wasM) || !slices.Equal(whole(at), wasAt) {
				t.Fatalf("Rest of room %d: %v, %v", d, whole(m), whole(at))
			}
		}
	}
}

func TestStepsAnswerIsTheCallersOwn(t *testing.T) { // R3: also where no cell changes
	for _, behind := range []int{0, 1, 40} {
		for op := -1; op <= 8; op++ {
			for pc := range 8 {
				for _, d := range []int{2, 4, 3} {
					m, c, f := someCells(behind), api.Conf{W: 1, D: d, I: 1}, api.Frame{Op: op, Pc: pc, Val: 7, X: 6, Y: 5}
					one, _ := deque.Step(c, m, f)
					two, _ := deque.Step(c, m, f)
					want, was := slices.Clone(one), whole(m)
					spoil(two, 88)
					if !slices.Equal(one, want) || !slices.Equal(whole(m), was) {
						t.Fatalf("%+v, room %d: an answer changes another one, or what was handed in", f, d)
					}
					spoil(m, 77)
					if !slices.Equal(one, want) {
						t.Fatalf("%+v, room %d: what was handed in changes the answer", f, d)
					}
				}
			}
		}
	}
}

func TestPlaysAnswersAreTheCallersOwn(t *testing.T) { // R3: of what was handed in, of each other, and of another answer
	for _, behind := range []int{0, 1, 40} {
		for _, x := range roomsAndThieves() {
			for n := range len(someWho(0)) + 1 {
				own, who := someCalls(behind), someWho(behind)[:n]
				m, over, at := deque.Play(x[0], x[1], own, who)
				m2, over2, at2 := deque.Play(x[0], x[1], own, who)
				wantM, wantOver, wantAt := slices.Clone(m), slices.Clone(over), slices.Clone(at)
				same := func(what string) {
					t.Helper()
					if !slices.Equal(m, wantM) || !slices.Equal(over, wantOver) || !slices.Equal(at, wantAt) {
						t.Fatalf("Play(%d, %d), %d turns: %s", x[0], x[1], n, what)
					}
				}
				spoil(own, aCall)
				spoil(who, 1)
				same("what was handed in changes an answer")
				spoil(m2, 88)
				spoil(over2, myCall)
				spoil(at2, myCall)
				same("another answer changes one")
				spoil(over, myCall)
				if !slices.Equal(at, wantAt) || slices.Contains(own[:cap(own)], myCall) {
					t.Fatalf("Play(%d, %d), %d turns: the calls that were over change others", x[0], x[1], n)
				}
				spoil(at, myCall)
				if slices.Contains(own[:cap(own)], myCall) {
					t.Fatalf("Play(%d, %d), %d turns: the calls at hand change what was handed in", x[0], x[1], n)
				}
			}
		}
	}
}

func TestRestsAnswersAreTheCallersOwn(t *testing.T) { // R3
	for _, behind := range []int{0, 1, 40} {
		for _, d := range []int{2, 4} {
			for n := range len(someCalls(0)) + 1 {
				m, at := someCells(behind), someCalls(behind)[:n]
				end, l := deque.Rest(d, m, at)
				end2, l2 := deque.Rest(d, m, at)
				wantEnd, wantL := slices.Clone(end), slices.Clone(l)
				spoil(m, 77)
				spoil(at, aCall)
				spoil(end2, 88)
				spoil(l2, myCall)
				if !slices.Equal(end, wantEnd) || !slices.Equal(l, wantL) {
					t.Fatalf("room %d, %d calls: what was handed in, or another answer, changes one", d, n)
				}
				spoil(end, 88)
				spoil(l, myCall)
				if slices.Contains(m[:cap(m)], 88) || slices.Contains(at[:cap(at)], myCall) {
					t.Fatalf("room %d, %d calls: an answer changes what was handed in", d, n)
				}
			}
		}
	}
}

func TestTheSameIsAnsweredAgain(t *testing.T) { // R5: whatever was asked before
	first := func() (api.Mem, []api.Frame, []api.Frame) { return deque.Play(2, 2, someCalls(0), someWho(0)) }
	m, over, at := first()
	end, l := deque.Rest(2, m, at)
	for _, x := range roomsAndThieves() {
		deque.Play(x[0], x[1], pushes(1, 2, 3), turns(7, 0))
		deque.Rest(x[0], someCells(0), pops(3))
		m2, over2, at2 := first()
		end2, l2 := deque.Rest(2, m2, at2)
		if !slices.Equal(m, m2) || !slices.Equal(over, over2) || !slices.Equal(at, at2) || !slices.Equal(end, end2) || !slices.Equal(l, l2) {
			t.Fatalf("behind %v: another answer", x)
		}
	}
}

func TestNilIsAsGoodAsEmpty(t *testing.T) { // R6
	for _, x := range roomsAndThieves() {
		m, over, at := deque.Play(x[0], x[1], nil, turns(9, 0))
		m2, over2, at2 := deque.Play(x[0], x[1], []api.Frame{}, turns(9, 0))
		m3, over3, at3 := deque.Play(x[0], x[1], pushes(7), nil)
		m4, over4, at4 := deque.Play(x[0], x[1], pushes(7), []int{})
		if !slices.Equal(m, m2) || !slices.Equal(m3, m4) || !slices.Equal(m, m3) || len(over)+len(over2)+len(over3)+len(over4) > 0 {
			t.Fatalf("%v: %v, %v, %v, %v", x, m, m2, m3, m4)
		}
		if !slices.Equal(at, at2) || !slices.Equal(at3, at4) || !slices.Equal(at, at3) {
			t.Fatalf("%v: %v, %v, %v, %v", x, at, at2, at3, at4)
		}
	}
	for _, m := range []api.Mem{nil, {}, someCells(0)} {
		one, a := deque.Rest(2, m, nil)
		two, b := deque.Rest(2, m, []api.Frame{})
		if !slices.Equal(one, m) || !slices.Equal(two, m) || len(a)+len(b) > 0 {
			t.Fatalf("%v: %v, %v", m, one, two)
		}
	}
	for op := -1; op <= 8; op++ {
		f := api.Frame{Op: op}
		one, a := deque.Step(api.Conf{W: 1, D: 2, I: 1}, nil, f)
		two, b := deque.Step(api.Conf{W: 1, D: 2, I: 1}, api.Mem{}, f)
		if len(one)+len(two) > 0 || a != f || b != f {
			t.Fatalf("%d: %v, %+v, %v, %+v", op, one, a, two, b)
		}
	}
}
