package event_test

import (
	"slices"
	"testing"

	"poacher/api"
	"poacher/event"
)

func TestExample(t *testing.T) { // the chapter's example: parked behind three steps, and it has a wake behind three of the other one
	for _, op := range []int{one, every} {
		calls := [][]int{{wt}, {op}}
		who := slices.Concat(turns(3, 0), turns(3, 1))
		m, over, at := event.Play(calls, who[:3])
		if m[10] != 0 || len(over) > 0 || at[0] != (api.Frame{Op: wt, Pc: 3}) || event.States(calls, who[:3], 0) != 1 {
			t.Errorf("%v, %+v, %+v", m, over, at)
		}
		m, over, at = event.Play(calls, who)
		if m[10] != 1 || len(over) != 1 || over[0].Res != api.ResOk || at[0] != (api.Frame{Op: wt, Pc: 3}) || event.States(calls, who, 0) != 1 {
			t.Errorf("%v, %+v, %+v", m, over, at)
		}
	}
}

// someCalls are lists of all kinds, with more memory behind each end: that of the lists, and of the list of them.
func someCalls(behind int) [][]int {
	out := [][]int{
		{wt, 3, one, -1, wt, wt},
		{99, 4, one, every, wt, one, one},
		nil,
		{wt, every, wt, one, wt, 0, 8},
	}
	for i, l := range out {
		out[i] = append(make([]int, 0, len(l)+behind), l...)
	}
	return append(make([][]int, 0, len(out)+behind), out...)
}

func someWho(behind int) []int {
	l := slices.Concat(turns(4, 0), turns(3, 3), []int{1, 3, 1, -1, 4, 1, 1, 0, 1, 1, 0, 3, 2}, turns(9, 0), []int{3, 3, 1, 1, 3, 3, 0}, turns(9, 3), turns(9, 1))
	return append(make([]int, 0, len(l)+behind), l...)
}

// tooMany are more lists than may be.
func tooMany(behind int) [][]int {
	return append(someCalls(behind), slices.Repeat([][]int{{wt}}, 5)...)
}

// whole is all of a list's memory, as it is now.
func whole[T any](l []T) []T { return slices.Clone(l[:cap(l)]) }

// wholes is all of the memory of lists, and of the list of them.
func wholes(calls [][]int) [][]int {
	var out [][]int
	for _, l := range calls[:cap(calls)] {
		out = append(out, whole(l))
	}
	return out
}

func sameLists(a, b [][]int) bool {
	return slices.EqualFunc(a, b, func(a, b []int) bool { return slices.Equal(a, b) })
}

// spoil changes all of a list's memory.
func spoil[T any](l []T, to T) {
	for i := range l[:cap(l)] {
		l[:cap(l)][i] = to
	}
}

func spoilLists(calls [][]int) {
	for _, l := range calls {
		spoil(l, one)
	}
	spoil(calls, []int{one})
}

var myCall = api.Frame{Op: 88, Pc: 88, Who: 88, Val: 88, X: 88, Y: 88, Res: 88}

// steps are calls of all Ops, at each Pc, that are over or not.
func steps() []api.Frame {
	var out []api.Frame
	for op := -1; op <= 8; op++ {
		for pc := range 6 {
			for res := range 2 {
				out = append(out, api.Frame{Op: op, Pc: pc, Who: 1, X: 0x90003, Y: 1, Res: res}, api.Frame{Op: op, Pc: pc, X: 0x80003, Y: 0x90003, Res: res})
			}
		}
	}
	return out
}

// atSome are cells of that layout, with an event of epoch 9, and with more memory behind their end.
func atSome(c api.Conf, behind int) api.Mem {
	l := holding(c, 0x90003, 1)
	return append(make(api.Mem, 0, len(l)+behind), l...)
}

func TestHandedInStays(t *testing.T) { // R3: also what lies behind the end, and within each list
	for _, behind := range []int{0, 1, 40} {
		for _, calls := range [][][]int{someCalls(behind), tooMany(behind)} {
			who := someWho(behind)
			wasCalls, wasWho := wholes(calls), whole(who)
			event.Play(calls, who)
			for w := -1; w <= len(calls); w++ {
				event.States(calls, who, w)
			}
			if !sameLists(wholes(calls), wasCalls) || !slices.Equal(whole(who), wasWho) {
				t.Fatalf("%v, %v", wholes(calls), whole(who))
			}
		}
		for _, f := range steps() {
			for _, c := range []api.Conf{{W: 2, D: 1, I: 1}, {W: 3, D: 4, I: 5}} {
				m := atSome(c, behind)
				was := whole(m)
				event.Step(c, m, f)
				event.Step(api.Conf{}, m, f)
				if !slices.Equal(whole(m), was) {
					t.Fatalf("%+v: %v is now %v", f, was, whole(m))
				}
			}
		}
	}
}

func TestStepsAnswerIsTheCallersOwn(t *testing.T) { // R3: also where no cell changes
	for _, behind := range []int{0, 1, 40} {
		for _, f := range steps() {
			for _, c := range []api.Conf{{W: 2, D: 1, I: 1}, {W: 3, D: 4, I: 5}, {}} {
				m := atSome(api.Conf{W: 2, D: 1, I: 1}, behind)
				first, _ := event.Step(c, m, f)
				second, _ := event.Step(c, m, f)
				want, was := slices.Clone(first), whole(m)
				spoil(second, 88)
				if !slices.Equal(first, want) || !slices.Equal(whole(m), was) {
					t.Fatalf("%+v, %+v: an answer changes another one, or what was handed in", c, f)
				}
				spoil(m, 77)
				if !slices.Equal(first, want) {
					t.Fatalf("%+v, %+v: what was handed in changes the answer", c, f)
				}
			}
		}
	}
}

func TestPlaysAnswersAreTheCallersOwn(t *testing.T) { // R3: of what was handed in, of each other, and of another answer
	for _, behind := range []int{0, 1, 40} {
		for n := range len(someWho(0)) + 1 {
			calls, who := someCalls(behind), someWho(behind)[:n]
			m, over, at := event.Play(calls, who)
			m2, over2, at2 := event.Play(calls, who)
			wantM, wantOver, wantAt, was := slices.Clone(m), slices.Clone(over), slices.Clone(at), wholes(calls)
			same := func(what string) {
				t.Helper()
				if !slices.Equal(m, wantM) || !slices.Equal(over, wantOver) || !slices.Equal(at, wantAt) {
					t.Fatalf("%d turns: %s", n, what)
				}
			}
			spoil(m2, 88)
			spoil(over2, myCall)
			spoil(at2, myCall)
			same("another answer changes one")
			spoil(over, myCall)
			if !slices.Equal(at, wantAt) {
				t.Fatalf("%d turns: the calls that were over change those at hand", n)
			}
			over = wantOver
			if !sameLists(wholes(calls), was) {
				t.Fatalf("%d turns: an answer changes what was handed in", n)
			}
			spoilLists(calls)
			spoil(who, 1)
			same("what was handed in changes an answer")
		}
	}
}

func TestTheSameIsAnsweredAgain(t *testing.T) { // R5: whatever was asked before
	for n := range len(someWho(0)) + 1 {
		m, over, at := event.Play(someCalls(0), someWho(0)[:n])
		many := event.States(someCalls(0), someWho(0)[:n], 0)
		for _, other := range [][][]int{{{wt, one}}, {{one}, {wt}, {every}}, someCalls(3), tooMany(0), nil} {
			event.Play(other, someWho(0))
			event.States(other, turns(7, 0), 0)
			m2, over2, at2 := event.Play(someCalls(0), someWho(0)[:n])
			if !slices.Equal(m, m2) || !slices.Equal(over, over2) || !slices.Equal(at, at2) || event.States(someCalls(0), someWho(0)[:n], 0) != many {
				t.Fatalf("%d turns, behind %v: another answer", n, other)
			}
		}
	}
}

func TestNilIsAsGoodAsEmpty(t *testing.T) { // R6
	same := func(calls, calls2 [][]int, who, who2 []int) {
		t.Helper()
		m, over, at := event.Play(calls, who)
		m2, over2, at2 := event.Play(calls2, who2)
		if !slices.Equal(m, m2) || len(over)+len(over2) > 0 || !slices.Equal(at, at2) {
			t.Fatalf("%v: %v, %v, %v and %v, %v, %v", calls, m, over, at, m2, over2, at2)
		}
		for w := -1; w <= 2; w++ {
			if event.States(calls, who, w) != event.States(calls2, who2, w) {
				t.Fatalf("%v, %d", calls, w)
			}
		}
	}
	same(nil, [][]int{}, turns(9, 0), turns(9, 0))
	same(nil, [][]int{}, nil, []int{})
	same([][]int{nil, nil}, [][]int{{}, {}}, turns(9, 0), turns(9, 1))
	same([][]int{{wt}}, [][]int{{wt}}, nil, []int{})
	for op := -1; op <= 8; op++ {
		for _, c := range []api.Conf{layout(1), {}} {
			f := api.Frame{Op: op}
			first, a := event.Step(c, nil, f)
			second, b := event.Step(c, api.Mem{}, f)
			if len(first)+len(second) > 0 || a != f || b != f {
				t.Fatalf("%d: %v, %+v, %v, %+v", op, first, a, second, b)
			}
		}
	}
}
