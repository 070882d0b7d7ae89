package event_test

import (
	"slices"
	"testing"

	"poacher/api"
	"poacher/event"
)

// layout is that of so many who call.
func layout(many int) api.Conf { return api.Conf{W: many, D: 1, I: 1} }

// cells are those of so many, with that event, and no park cell set.
func cells(many int, e uint64) api.Mem {
	m := make(api.Mem, size(layout(many)))
	m[eventAt] = e
	return m
}

// powers are the bits' numbers in a mask.
func powers() [8]uint64 { return [8]uint64{1, 2, 4, 8, 16, 32, 64, 128} }

func has(mask uint64, w int) bool { return mask/powers()[w]%2 == 1 }

// ended is a call that is over.
func ended(op, who, res int, val uint64) api.Frame {
	return api.Frame{Op: op, Who: who, Val: val, Res: res}
}

// tell is a call's next step, told anew, without the packages below; it changes cells and call.
func tell(m api.Mem, f *api.Frame) {
	switch f.Op {
	case wt:
		tellWait(m, f)
	case one, every:
		tellWake(m, f)
	}
}

func tellWait(m api.Mem, f *api.Frame) {
	e, park := &m[eventAt], &m[10+4*f.Who]
	switch {
	case f.Pc == 0:
		f.Pc, f.X = 1, *e
	case f.Pc == 1 && *e/65536 != f.X/65536:
		*f = ended(f.Op, f.Who, 4, 0)
	case f.Pc == 1:
		f.Pc, f.Y = 2, *e
	case f.Pc == 2 && *e != f.Y:
		f.Pc = 1
	case f.Pc == 2:
		f.Pc = 3
		if !has(*e, f.Who) {
			*e += powers()[f.Who]
		}
	case f.Pc == 3 && *park == 0:
		f.Y = 0
	case f.Pc == 3:
		f.Pc, f.Y = 4, *park
	default:
		*park = 0
		*f = ended(f.Op, f.Who, 1, 0)
	}
}

func tellWake(m api.Mem, f *api.Frame) {
	e := &m[eventAt]
	mask := f.X % 65536
	switch {
	case f.Pc == 0:
		f.Pc, f.X = 1, *e
	case f.Pc == 1 && *e != f.X:
		f.Pc = 0
	case f.Pc == 1 && mask == 0:
		*e += 65536
		*f = ended(f.Op, f.Who, 3, 0)
	case f.Pc == 1 && f.Op == one:
		f.Pc, f.Y = 2, uint64(lowest(mask))
		*e += 65536 - powers()[f.Y]
	case f.Pc == 1:
		f.Pc, f.Y = 2, mask
		*e += 65536 - mask
	case f.Op == one:
		m[10+4*f.Y] = 1
		*f = ended(f.Op, f.Who, 1, f.Y)
	default:
		w := lowest(f.Y)
		m[10+4*w] = 1
		if f.Y -= powers()[w]; f.Y == 0 {
			*f = ended(f.Op, f.Who, 1, mask)
		}
	}
}

// lowest is asked of masks that have a bit.
func lowest(mask uint64) int {
	w := 0
	for !has(mask, w) {
		w++
	}
	return w
}

// played is told anew, with a place in each list, and without the packages below.
func played(calls [][]int, who []int) (api.Mem, []api.Frame, []api.Frame) {
	if len(calls) < 1 || len(calls) > 8 {
		return nil, nil, nil
	}
	m, at, begun := cells(len(calls), 0), idle(len(calls)), make([]int, len(calls))
	var over []api.Frame
	for _, i := range who {
		if i < 0 || i >= len(calls) {
			continue
		}
		for at[i].Op == -1 && begun[i] < len(calls[i]) {
			if op := calls[i][begun[i]]; op >= wt && op <= every {
				at[i] = api.Frame{Op: op, Who: i}
			}
			begun[i]++
		}
		if tell(m, &at[i]); at[i].Res != 0 {
			over, at[i] = append(over, at[i]), api.Frame{Op: -1}
		}
	}
	return m, over, at
}

// plays asks that Play answers these.
func plays(t *testing.T, calls [][]int, who []int, m api.Mem, over, at []api.Frame) {
	t.Helper()
	gotM, gotOver, gotAt := event.Play(calls, who)
	if !slices.Equal(gotM, m) || !slices.Equal(gotOver, over) || !slices.Equal(gotAt, at) {
		t.Fatalf("Play(%v, %v) = %v, %+v, %+v, want %v, %+v, %+v", calls, who, gotM, gotOver, gotAt, m, over, at)
	}
}

// playsAsTold asks that Play answers what is told anew.
func playsAsTold(t *testing.T, calls [][]int, who []int) {
	t.Helper()
	m, over, at := played(calls, who)
	plays(t, calls, who, m, over, at)
}

// idle are as many that have no call.
func idle(n int) []api.Frame { return slices.Repeat([]api.Frame{{Op: -1}}, n) }

func turns(n, who int) []int { return slices.Repeat([]int{who}, n) }

func times(n, op int) []int { return slices.Repeat([]int{op}, n) }

// everyone are so many, in order.
func everyone(n int) []int {
	var who []int
	for i := range n {
		who = append(who, i)
	}
	return who
}

func TestPlayByHand(t *testing.T) { // P16.2: written out; 2 is the event, 10, 14 and 18 are the park cells of the first ones
	none := api.Frame{Op: -1}
	waits, both := [][]int{{wt}}, [][]int{{wt}, {one}}
	for i, x := range []struct {
		calls    [][]int
		who      []int
		m        api.Mem
		over, at []api.Frame
	}{
		{[][]int{nil}, turns(9, 0), api.Mem{11: 0}, nil, []api.Frame{none}},
		{waits, nil, api.Mem{11: 0}, nil, []api.Frame{none}},
		{waits, turns(1, 0), api.Mem{11: 0}, nil, []api.Frame{{Op: 5, Pc: 1}}},
		{waits, turns(2, 0), api.Mem{11: 0}, nil, []api.Frame{{Op: 5, Pc: 2}}},
		{waits, turns(3, 0), api.Mem{2: 1, 11: 0}, nil, []api.Frame{{Op: 5, Pc: 3}}},
		{waits, turns(99, 0), api.Mem{2: 1, 11: 0}, nil, []api.Frame{{Op: 5, Pc: 3}}},
		{[][]int{{wt, wt}}, turns(99, 0), api.Mem{2: 1, 11: 0}, nil, []api.Frame{{Op: 5, Pc: 3}}},
		{[][]int{{one}}, turns(1, 0), api.Mem{11: 0}, nil, []api.Frame{{Op: 6, Pc: 1}}},
		{[][]int{{one}}, turns(2, 0), api.Mem{2: 65536, 11: 0}, []api.Frame{ended(6, 0, 3, 0)}, []api.Frame{none}},
		{[][]int{{every}}, turns(9, 0), api.Mem{2: 65536, 11: 0}, []api.Frame{ended(7, 0, 3, 0)}, []api.Frame{none}},
		{[][]int{{one, every}}, turns(3, 0), api.Mem{2: 65536, 11: 0}, []api.Frame{ended(6, 0, 3, 0)}, []api.Frame{{Op: 7, Pc: 1, X: 65536}}},
		{[][]int{{one, every, wt}}, turns(5, 0), api.Mem{2: 2 * 65536, 11: 0}, []api.Frame{ended(6, 0, 3, 0), ended(7, 0, 3, 0)}, []api.Frame{{Op: 5, Pc: 1, X: 2 * 65536}}},
		{both, slices.Concat(turns(3, 0), turns(2, 1)), api.Mem{2: 65536, 15: 0}, nil, []api.Frame{{Op: 5, Pc: 3}, {Op: 6, Pc: 2, Who: 1, X: 1}}},
		{both, slices.Concat(turns(3, 0), turns(3, 1)), api.Mem{2: 65536, 10: 1, 15: 0}, []api.Frame{ended(6, 1, 1, 0)}, []api.Frame{{Op: 5, Pc: 3}, none}},
		{both, slices.Concat(turns(3, 0), turns(3, 1), turns(1, 0)), api.Mem{2: 65536, 10: 1, 15: 0}, []api.Frame{ended(6, 1, 1, 0)}, []api.Frame{{Op: 5, Pc: 4, Y: 1}, none}},
		{both, slices.Concat(turns(3, 0), turns(3, 1), turns(2, 0)), api.Mem{2: 65536, 15: 0}, []api.Frame{ended(6, 1, 1, 0), ended(5, 0, 1, 0)}, []api.Frame{none, none}},
		{both, []int{0, 1, 1, 0}, api.Mem{2: 65536, 15: 0}, []api.Frame{ended(6, 1, 3, 0), ended(5, 0, 4, 0)}, []api.Frame{none, none}},
		{both, []int{0, 0, 1, 1, 0, 0}, api.Mem{2: 65536, 15: 0}, []api.Frame{ended(6, 1, 3, 0), ended(5, 0, 4, 0)}, []api.Frame{none, none}},
		{both, []int{1, 0, 0, 0, 1}, api.Mem{2: 1, 15: 0}, nil, []api.Frame{{Op: 5, Pc: 3}, {Op: 6, Who: 1}}},
		{[][]int{nil, {wt}, {every}}, slices.Concat(turns(3, 1), turns(3, 2)), api.Mem{2: 65536, 14: 1, 19: 0}, []api.Frame{ended(7, 2, 1, 2)}, []api.Frame{none, {Op: 5, Pc: 3, Who: 1}, none}},
		{[][]int{{wt}, {wt}, {every}}, slices.Concat(turns(3, 0), turns(3, 1), turns(3, 2)), api.Mem{2: 65536, 10: 1, 19: 0}, nil, []api.Frame{{Op: 5, Pc: 3}, {Op: 5, Pc: 3, Who: 1, X: 1, Y: 1}, {Op: 7, Pc: 2, Who: 2, X: 3, Y: 2}}},
		{[][]int{7: {wt}}, []int{7, 8, 7, -1, 0, 7}, api.Mem{2: 128, 39: 0}, nil, append(idle(7), api.Frame{Op: 5, Pc: 3, Who: 7})},
	} {
		gotM, over, at := event.Play(x.calls, x.who)
		if !slices.Equal(gotM, x.m) || !slices.Equal(over, x.over) || !slices.Equal(at, x.at) {
			t.Errorf("%d: %v, %+v, %+v", i, gotM, over, at)
		}
	}
}

func TestPlayThatMayNotBe(t *testing.T) { // P16.2, P16.3: no list, and more than may be
	for _, many := range []int{0, 9, 10, 16, 100, 256, 257, 264, 1 << 16, 1<<16 + 1} {
		for _, calls := range [][][]int{make([][]int, many), slices.Repeat([][]int{{}}, many), slices.Repeat([][]int{{wt, one, every}}, many)} {
			for _, who := range [][]int{nil, turns(9, 0), {0, 1, 8, 9, -1}} {
				if m, over, at := event.Play(calls, who); len(m)+len(over)+len(at) > 0 {
					t.Fatalf("%d lists, %v: %v, %+v, %+v", many, who, m, over, at)
				}
				for _, w := range append(far(), 0, 1, 7, 8, many-1, many) {
					if n := event.States(calls, who, w); n != -1 {
						t.Fatalf("%d lists, %v, %d: %d", many, who, w, n)
					}
				}
			}
		}
	}
}

func TestPlayOfEachSize(t *testing.T) { // P16.2: each number of lists: empty ones, those that wait alone, that wake alone, and that do both
	for many := 1; many <= 8; many++ {
		for kinds := range 5 {
			calls := make([][]int, many)
			playsAsTold(t, calls, slices.Repeat(everyone(9), 3))
			for i := range calls {
				calls[i] = [][]int{times(9, wt), times(20, one), {}, {wt, every, wt, one, wt, every}, times(6, every)}[(2*i+kinds)%5]
			}
			playsAsTold(t, calls, nil)
			for i := range many {
				playsAsTold(t, calls, turns(50, i))
				playsAsTold(t, calls, slices.Concat(turns(7, i), slices.Repeat(everyone(many), 9), turns(9, i)))
				playsAsTold(t, calls, slices.Repeat(append(turns(3, i), everyone(many)...), 30))
			}
			playsAsTold(t, calls, slices.Repeat(everyone(many), 90))
			back := everyone(many)
			slices.Reverse(back)
			playsAsTold(t, calls, slices.Repeat(back, 90))
		}
	}
}

// twoAtOnce are two that wait and wake, so that all that a call may come to is there.
func twoAtOnce() [][]int { return [][]int{{wt, one, wt, every}, {one, wt, every, one}} }

func TestPlayLeavesOtherOpsOut(t *testing.T) { // P16.2: ahead of the first one, between, and behind the last one; they take no turn
	calls := twoAtOnce()
	for _, op := range otherOps() {
		for _, others := range [][]int{{op}, {op, op, 99}, {-1, op, 0, 4}} {
			for i := range calls {
				for at := range len(calls[i]) + 1 {
					with := slices.Clone(calls)
					with[i] = slices.Insert(slices.Clone(calls[i]), at, others...)
					for n := range 12 {
						for _, who := range [][]int{slices.Concat(turns(n, 0), turns(n, 1), []int{0, 1, 0, 1}), slices.Repeat([]int{1, 0}, n), slices.Repeat([]int{0, 0, 1}, 2*n)} {
							m, over, hand := played(calls, who)
							plays(t, with, who, m, over, hand)
						}
					}
				}
			}
		}
		plays(t, [][]int{{op, 8, op}, {op}}, slices.Repeat([]int{0, 1}, 9), cells(2, 0), nil, idle(2))
	}
}

func TestPlayOfWhomThereIsNone(t *testing.T) { // P16.2: they do nothing, and take nobody's turn
	for many := 1; many <= 8; many++ {
		calls := make([][]int, many)
		for i := range calls {
			calls[i] = [][]int{{wt, one}, {one, wt}, {every}}[i%3]
		}
		who := slices.Repeat(everyone(many), 9)
		m, over, at := played(calls, who)
		for _, none := range append(far(), many, many+1, many+8) {
			plays(t, calls, turns(9, none), cells(many, 0), nil, idle(many))
			for i := 0; i <= len(who); i += 5 {
				plays(t, calls, slices.Insert(slices.Clone(who), i, none), m, over, at)
			}
			plays(t, calls, slices.Concat(turns(3, none), who, turns(3, none)), m, over, at)
		}
	}
}

func TestPlayOfOneTurnEach(t *testing.T) { // P16.2: it begins and does its first step in one turn; what is over, and what begins, are two
	ops := []int{one, every, one, wt, one, wt}
	steps := []int{2, 2, 2, 2, 2, 5} // the first wait finds another epoch, for somebody wakes behind its first step
	for i := range 8 {
		calls := make([][]int, 8)
		calls[i], calls[(i+1)%8] = ops, []int{one, one}
		var who []int
		for call, many := range steps {
			for step := range many {
				_, over, at := event.Play(calls, who)
				mine := slices.DeleteFunc(over, func(f api.Frame) bool { return f.Who != i })
				idling := at[i].Op == -1
				if len(mine) != call || idling != (step == 0) || !idling && (at[i].Op != ops[call] || at[i].Pc != step || at[i].Who != i) {
					t.Fatalf("%v: %+v, %+v", who, over, at)
				}
				who = append(who, i)
				switch {
				case call == 3 && step == 0:
					who = append(who, turns(2, (i+1)%8)...)
				case call == 5 && step == 2:
					who = append(who, turns(3, (i+1)%8)...)
				}
			}
		}
		at := idle(8)
		_, over, got := event.Play(calls, who)
		if len(over) != 8 || !slices.Equal(got, at) {
			t.Fatalf("%v: %+v, %+v", who, over, got)
		}
	}
}

func TestPlayOfAListThatIsDone(t *testing.T) { // P16.2: it does nothing any more, and all others go on
	for _, ops := range [][]int{nil, {}, {one}, {every, one}, {api.OpPush}, {99, one, -1}} {
		for i := range 3 {
			calls := [][]int{{wt, wt}, {one, every}, {wt, one, wt}}
			calls[i] = ops
			m, over, at := played(calls, turns(20, i))
			for _, n := range []int{21, 22, 100} {
				plays(t, calls, turns(n, i), m, over, at)
				playsAsTold(t, calls, slices.Concat(turns(n, i), slices.Repeat([]int{i, 0, 1, i, 2}, 30)))
			}
		}
	}
}

func TestPlayOfOneThatIsParked(t *testing.T) { // P16.2: told again and again it stays, and takes its turns: what its list has besides is not begun
	for i := range 8 {
		calls := make([][]int, 8)
		calls[i] = []int{wt, one, every}
		at := idle(8)
		at[i] = api.Frame{Op: wt, Pc: 3, Who: i}
		for _, n := range []int{3, 4, 5, 9, 1000} {
			plays(t, calls, turns(n, i), cells(8, powers()[i]), nil, at)
		}
		calls[(i+3)%8] = []int{one, every}
		for n := range 20 { // it is woken, then parked no more; and goes on where it was
			playsAsTold(t, calls, slices.Concat(turns(3+n, i), turns(2, (i+3)%8), turns(n, i), turns(1, (i+3)%8), turns(n, i)))
		}
	}
}

func TestPlayTellsWhoseCallIsOver(t *testing.T) { // P16.2: in the order in which they were over, not in which they began, or are listed
	calls := [][]int{{wt}, {wt}, {wt}, {every}, {one}}
	who := slices.Concat(turns(3, 2), turns(3, 0), []int{4, 1}, turns(2, 3), turns(2, 1), turns(2, 3), turns(2, 2), turns(2, 0), turns(3, 4))
	want := []api.Frame{ended(wt, 1, 4, 0), ended(every, 3, 1, 5), ended(wt, 2, 1, 0), ended(wt, 0, 1, 0), ended(one, 4, 3, 0)}
	if _, over, at := event.Play(calls, who); !slices.Equal(over, want) || !slices.Equal(at, idle(5)) {
		t.Errorf("%+v, %+v", over, at)
	}
}

// inAllScripts hands on all lists of n who are below many; the list is changed behind each.
func inAllScripts(many, n int, do func(who []int)) {
	who := make([]int, n)
	for {
		do(who)
		i := 0
		for i < n && who[i] == many-1 {
			who[i] = 0
			i++
		}
		if i == n {
			return
		}
		who[i]++
	}
}

// pairs are two who wait, and wake.
func pairs() [][][]int {
	return [][][]int{
		{{wt}, {one}},
		{{wt}, {every}},
		{{wt, wt}, {one, one}},
		{{wt, wt}, {every, one}},
		{{wt, wt}, {wt, wt}},
		{{one, every}, {every, one}},
		{{wt, one}, {one, wt}},
		twoAtOnce(),
	}
}

// threes are three who wait, and wake.
func threes() [][][]int {
	return [][][]int{
		{{wt}, {wt}, {one, one}},
		{{wt}, {wt}, {every}},
		{{wt}, {one}, {every}},
		{{wt, one}, {one, wt}, {wt, every}},
	}
}

func TestPlayInAllOrders(t *testing.T) { // P16.2: all lists of who, of two and of three, ahead of which the first one did some
	for _, ahead := range []int{0, 2, 3} {
		first := turns(ahead, 0)
		for _, calls := range pairs() {
			inAllScripts(2, 13, func(who []int) { playsAsTold(t, calls, append(first[:ahead:ahead], who...)) })
		}
		for _, calls := range threes() {
			inAllScripts(3, 8, func(who []int) { playsAsTold(t, calls, append(first[:ahead:ahead], who...)) })
		}
	}
}

// drawn answers what draws numbers below n: of no chance, but reckoned.
func drawn(seed int) func(n int) int {
	x := uint64(seed)*0x9e3779b97f4a7c15 + 1
	return func(n int) int {
		x = x*6364136223846793005 + 1442695040888963407
		return int((x >> 33) % uint64(n))
	}
}

// script is who, drawn, some of them more often than others; some are none.
func script(draw func(n int) int, many, n int) []int {
	var who []int
	often := draw(many + 1)
	for range n {
		switch draw(8) {
		case 0, 1:
			who = append(who, often)
		case 2:
			who = append(who, -1-draw(3))
		default:
			who = append(who, draw(many+1))
		}
	}
	return who
}

// lists are as many lists of n drawn calls; some wait more often than others, and some Ops are others.
func lists(draw func(n int) int, many, n int) [][]int {
	out := make([][]int, many)
	for i := range out {
		leans := draw(10)
		for range n {
			switch {
			case draw(9) == 0:
				out[i] = append(out[i], []int{0, 1, 2, 3, 4, 8, 99, -1}[draw(8)])
			case draw(9) < leans:
				out[i] = append(out[i], wt)
			default:
				out[i] = append(out[i], []int{one, one, every}[draw(3)])
			}
		}
	}
	return out
}

func TestPlayInDrawnOrders(t *testing.T) { // P16.2: of each number of lists
	for many := 1; many <= 8; many++ {
		for seed := range 60 {
			draw := drawn(100*many + seed)
			calls := lists(draw, many, draw(90))
			playsAsTold(t, calls, script(draw, many, draw(2000)))
		}
	}
}
