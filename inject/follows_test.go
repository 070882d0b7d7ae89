package inject_test

import (
	"slices"
	"testing"

	"poacher/api"
	"poacher/deq"
	"poacher/inject"
)

func TestExample(t *testing.T) { // the chapter's example
	for room := 1; room <= 16; room++ {
		who := append(turns(5, 0), turns(5, 1)...)
		m, over, at := inject.Play(room, [][]api.Frame{puts(7), takes(1)}, who)
		l, is := deq.List(alone(room), m)
		if !slices.Equal(over, []api.Frame{done(in, 0, 7), done(out, 1, 7)}) || !slices.Equal(at, idle(2)) || !is || len(l) > 0 {
			t.Errorf("room %d: %+v, %+v, %v, %v", room, over, at, l, is)
		}
	}
}

// behindEnds are calls of all kinds, of three, with more memory behind each end: that of the lists, and of the list of them.
func behindEnds(behind int) [][]api.Frame {
	all := [][]api.Frame{
		slices.Concat(puts(7, 8), []api.Frame{full(api.OpSteal, 4), full(in, 5), {Op: -1}, full(out, 6)}, puts(9)),
		slices.Concat([]api.Frame{{Op: api.OpNote}}, takes(3), puts(31, 32)),
		nil,
		both(51, 52, 53),
	}
	for i, l := range all {
		all[i] = append(make([]api.Frame, 0, len(l)+behind), l...)
	}
	return append(make([][]api.Frame, 0, len(all)+behind), all...)
}

func someWho(behind int) []int {
	l := slices.Concat(turns(6, 0), []int{1, 3, 1, -1, 4, 3, 0, 1, 1, 0, 3, 2}, turns(9, 0), []int{3, 3, 1, 1, 3, 3, 0}, turns(9, 1), turns(9, 3))
	return append(make([]int, 0, len(l)+behind), l...)
}

// someCalls are at hand, some of them, and some over.
func someCalls(behind int) []api.Frame {
	l := slices.Concat(puts(7, 8), []api.Frame{full(out, 4), {Op: -1}, full(api.OpPush, 5), {Op: api.OpPop}, {Op: out, Pc: 2, X: 5}}, takes(2))
	return append(make([]api.Frame, 0, len(l)+behind), l...)
}

// someCells are those of an injector with room for 2 that has one number.
func someCells(behind int) api.Mem {
	l := holding(alone(2), 5, 50)
	return append(make(api.Mem, 0, len(l)+behind), l...)
}

// whole is all of a list's memory, as it is now.
func whole[T any](l []T) []T { return slices.Clone(l[:cap(l)]) }

// wholes is all of the memory of lists, and of the list of them.
func wholes(all [][]api.Frame) [][]api.Frame {
	var out [][]api.Frame
	for _, l := range all[:cap(all)] {
		out = append(out, whole(l))
	}
	return out
}

func sameLists(a, b [][]api.Frame) bool {
	return slices.EqualFunc(a, b, func(a, b []api.Frame) bool { return slices.Equal(a, b) })
}

// spoil changes all of a list's memory.
func spoil[T any](l []T, to T) {
	for i := range l[:cap(l)] {
		l[:cap(l)][i] = to
	}
}

func spoilLists(all [][]api.Frame) {
	for _, l := range all {
		spoil(l, aCall)
	}
	spoil(all, []api.Frame{aCall})
}

var (
	aCall  = api.Frame{Op: 77, Pc: 77, Who: 77, Val: 77, X: 77, Y: 77, Res: 77}
	myCall = api.Frame{Op: 88, Pc: 88, Who: 88, Val: 88, X: 88, Y: 88, Res: 88}
)

// someRooms are some that may be, and some that may not.
func someRooms() []int { return []int{2, 1, 3, 16, 0, 17, -1} }

func TestHandedInStays(t *testing.T) { // R3: also what lies behind the end, and within each list
	for _, behind := range []int{0, 1, 40} {
		for _, room := range someRooms() {
			calls, who := behindEnds(behind), someWho(behind)
			wasCalls, wasWho := wholes(calls), whole(who)
			inject.Play(room, calls, who)
			if !sameLists(wholes(calls), wasCalls) || !slices.Equal(whole(who), wasWho) {
				t.Fatalf("Play(%d): %v, %v", room, wholes(calls), whole(who))
			}
			m, at := someCells(behind), someCalls(behind)
			wasM, wasAt := whole(m), whole(at)
			inject.Rest(room, m, at)
			for _, f := range at {
				for pc := range 6 {
					f.Pc = pc
					inject.Step(alone(room), m, f)
				}
			}
			if !slices.Equal(whole(m), wasM) || !slices.Equal(whole(at), wasAt) {
				t.Fatalf("Rest(%d): %v, %v", room, whole(m), whole(at))
			}
		}
	}
}

func TestStepsAnswerIsTheCallersOwn(t *testing.T) { // R3: also where no cell changes
	for _, behind := range []int{0, 1, 40} {
		for op := -1; op <= 8; op++ {
			for pc := range 6 {
				for _, room := range []int{2, 3, 0} {
					m, c, f := someCells(behind), alone(room), api.Frame{Op: op, Pc: pc, Val: 7, X: 6, Y: 5}
					one, _ := inject.Step(c, m, f)
					two, _ := inject.Step(c, m, f)
					want, was := slices.Clone(one), whole(m)
					spoil(two, 88)
					if !slices.Equal(one, want) || !slices.Equal(whole(m), was) {
						t.Fatalf("%+v, room %d: an answer changes another one, or what was handed in", f, room)
					}
					spoil(m, 77)
					if !slices.Equal(one, want) {
						t.Fatalf("%+v, room %d: what was handed in changes the answer", f, room)
					}
				}
			}
		}
	}
}

func TestPlaysAnswersAreTheCallersOwn(t *testing.T) { // R3: of what was handed in, of each other, and of another answer
	for _, behind := range []int{0, 1, 40} {
		for _, room := range someRooms() {
			for n := range len(someWho(0)) + 1 {
				calls, who := behindEnds(behind), someWho(behind)[:n]
				m, over, at := inject.Play(room, calls, who)
				m2, over2, at2 := inject.Play(room, calls, who)
				wantM, wantOver, wantAt, was := slices.Clone(m), slices.Clone(over), slices.Clone(at), wholes(calls)
				same := func(what string) {
					t.Helper()
					if !slices.Equal(m, wantM) || !slices.Equal(over, wantOver) || !slices.Equal(at, wantAt) {
						t.Fatalf("Play(%d), %d turns: %s", room, n, what)
					}
				}
				spoil(m2, 88)
				spoil(over2, myCall)
				spoil(at2, myCall)
				same("another answer changes one")
				spoil(over, myCall)
				if !slices.Equal(at, wantAt) {
					t.Fatalf("Play(%d), %d turns: the calls that were over change those at hand", room, n)
				}
				over = wantOver
				if !sameLists(wholes(calls), was) {
					t.Fatalf("Play(%d), %d turns: an answer changes what was handed in", room, n)
				}
				spoilLists(calls)
				spoil(who, 1)
				same("what was handed in changes an answer")
			}
		}
	}
}

func TestRestsAnswersAreTheCallersOwn(t *testing.T) { // R3
	for _, behind := range []int{0, 1, 40} {
		for _, room := range someRooms() {
			for n := range len(someCalls(0)) + 1 {
				m, at := someCells(behind), someCalls(behind)[:n]
				end, l := inject.Rest(room, m, at)
				end2, l2 := inject.Rest(room, m, at)
				wantEnd, wantL, wasM, wasAt := slices.Clone(end), slices.Clone(l), whole(m), whole(at)
				spoil(end2, 88)
				spoil(l2, myCall)
				if !slices.Equal(whole(m), wasM) || !slices.Equal(whole(at), wasAt) {
					t.Fatalf("room %d, %d calls: an answer changes what was handed in", room, n)
				}
				spoil(m, 77)
				spoil(at, aCall)
				if !slices.Equal(end, wantEnd) || !slices.Equal(l, wantL) {
					t.Fatalf("room %d, %d calls: what was handed in, or another answer, changes one", room, n)
				}
			}
		}
	}
}

func TestTheSameIsAnsweredAgain(t *testing.T) { // R5: whatever was asked before
	first := func() (api.Mem, []api.Frame, []api.Frame) { return inject.Play(2, behindEnds(0), someWho(0)[:40]) }
	m, over, at := first()
	end, l := inject.Rest(2, m, at)
	for _, room := range someRooms() {
		inject.Play(room, [][]api.Frame{puts(1, 2, 3), both(4)}, turns(7, 0))
		inject.Rest(room, someCells(0), takes(3))
		m2, over2, at2 := first()
		end2, l2 := inject.Rest(2, m2, at2)
		if !slices.Equal(m, m2) || !slices.Equal(over, over2) || !slices.Equal(at, at2) || !slices.Equal(end, end2) || !slices.Equal(l, l2) {
			t.Fatalf("behind room %d: another answer", room)
		}
	}
}

func TestNilIsAsGoodAsEmpty(t *testing.T) { // R6
	same := func(room int, calls, calls2 [][]api.Frame, who, who2 []int) {
		t.Helper()
		m, over, at := inject.Play(room, calls, who)
		m2, over2, at2 := inject.Play(room, calls2, who2)
		if !slices.Equal(m, m2) || len(over)+len(over2) > 0 || !slices.Equal(at, at2) {
			t.Fatalf("Play(%d): %v, %v, %v and %v, %v, %v", room, m, over, at, m2, over2, at2)
		}
	}
	for _, room := range someRooms() {
		same(room, nil, [][]api.Frame{}, turns(9, 0), turns(9, 0))
		same(room, [][]api.Frame{nil, nil}, [][]api.Frame{{}, {}}, turns(9, 0), turns(9, 1))
		same(room, [][]api.Frame{puts(7)}, [][]api.Frame{puts(7)}, nil, []int{})
	}
	for _, m := range []api.Mem{nil, {}, someCells(0)} {
		one, a := inject.Rest(2, m, nil)
		two, b := inject.Rest(2, m, []api.Frame{})
		if len(m) == 0 && len(one)+len(two) > 0 || len(m) > 0 && (!slices.Equal(one, m) || !slices.Equal(two, m)) || len(a)+len(b) > 0 {
			t.Fatalf("%v: %v, %v", m, one, two)
		}
	}
	for op := -1; op <= 8; op++ {
		f := api.Frame{Op: op}
		one, a := inject.Step(alone(2), nil, f)
		two, b := inject.Step(alone(2), api.Mem{}, f)
		if len(one)+len(two) > 0 || a != f || b != f {
			t.Fatalf("%d: %v, %+v, %v, %+v", op, one, a, two, b)
		}
	}
}
