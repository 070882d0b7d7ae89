package inject_test

import (
	"math"
	"slices"
	"testing"

	"poacher/api"
	"poacher/inject"
)

// tell is a call's next step at the cells of an injector alone, told anew, without the packages below.
func tell(m api.Mem, f *api.Frame) {
	room := uint64(len(m)-10) / 2
	seq, val, twice := &m[6+f.X%room], &m[6+room+f.X%room], f.X/room*2
	end, wants := &m[tailAt], twice
	if f.Op == out {
		end, wants = &m[headAt], twice+1
	}
	over := func(res int, val uint64) { *f = api.Frame{Op: f.Op, Who: f.Who, Val: val, Res: res} }
	switch [2]int{f.Op, f.Pc} {
	case [2]int{in, 0}, [2]int{out, 0}:
		f.Pc, f.X = 1, *end
	case [2]int{in, 1}, [2]int{out, 1}:
		f.Pc, f.Y = 0, *seq
		if *seq == wants {
			f.Pc = 2
		} else if *seq-wants >= 1<<63 && f.Op == in {
			over(2, f.Val)
		} else if *seq-wants >= 1<<63 {
			over(3, 0)
		}
	case [2]int{in, 2}, [2]int{out, 2}:
		f.Pc = 0
		if *end == f.X {
			f.Pc, *end = 3, f.X+1
		}
	case [2]int{in, 3}:
		f.Pc, *val = 4, f.Val
	case [2]int{out, 3}:
		f.Pc, f.Val = 4, *val
	case [2]int{in, 4}, [2]int{out, 4}:
		*seq = wants + 1
		over(1, f.Val)
	}
}

// played is told anew, with a place in each list, and without the packages below.
func played(room int, calls [][]api.Frame, who []int) (api.Mem, []api.Frame, []api.Frame) {
	m, at, begun := make(api.Mem, sizeOf(room)), idle(len(calls)), make([]int, len(calls))
	var over []api.Frame
	for _, i := range who {
		if i < 0 || i >= len(calls) {
			continue
		}
		for at[i].Op == -1 && begun[i] < len(calls[i]) {
			if f := calls[i][begun[i]]; f.Op == in || f.Op == out {
				at[i] = api.Frame{Op: f.Op, Who: i, Val: f.Val}
			}
			begun[i]++
		}
		if tell(m, &at[i]); at[i].Res != 0 {
			over, at[i] = append(over, at[i]), api.Frame{Op: -1}
		}
	}
	return m, over, at
}

// plays asks that Play answers these.
func plays(t *testing.T, room int, calls [][]api.Frame, who []int, m api.Mem, over, at []api.Frame) {
	t.Helper()
	gotM, gotOver, gotAt := inject.Play(room, calls, who)
	if !slices.Equal(gotM, m) || !slices.Equal(gotOver, over) || !slices.Equal(gotAt, at) {
		t.Fatalf("Play(%d, %+v, %v) = %v, %+v, %+v, want %v, %+v, %+v", room, calls, who, gotM, gotOver, gotAt, m, over, at)
	}
}

// playsAsTold asks that Play answers what is told anew.
func playsAsTold(t *testing.T, room int, calls [][]api.Frame, who []int) {
	t.Helper()
	m, over, at := played(room, calls, who)
	plays(t, room, calls, who, m, over, at)
}

// idle are as many that have no call.
func idle(n int) []api.Frame { return slices.Repeat([]api.Frame{{Op: -1}}, n) }

// puts are calls that put these in.
func puts(vals ...uint64) []api.Frame {
	var all []api.Frame
	for _, n := range vals {
		all = append(all, api.Frame{Op: in, Val: n})
	}
	return all
}

func takes(n int) []api.Frame { return slices.Repeat([]api.Frame{{Op: out}}, n) }

// both puts each of these in, and takes one out behind each.
func both(vals ...uint64) []api.Frame {
	var all []api.Frame
	for _, f := range puts(vals...) {
		all = append(all, f, api.Frame{Op: out})
	}
	return all
}

// full is a call of which no field is 0, but perhaps its Op.
func full(op int, val uint64) api.Frame {
	return api.Frame{Op: op, Pc: 3, Who: 2, Val: val, X: 5, Y: 6, Res: api.ResOk}
}

// done are the calls that are over because a number was put in, or taken out; gone is one that found none, and late one that found no room.
func done(op, who int, val uint64) api.Frame {
	return api.Frame{Op: op, Who: who, Val: val, Res: api.ResOk}
}

func gone(who int) api.Frame { return api.Frame{Op: out, Who: who, Res: api.ResEmpty} }

func late(who int, val uint64) api.Frame {
	return api.Frame{Op: in, Who: who, Val: val, Res: api.ResFull}
}

func turns(n, who int) []int { return slices.Repeat([]int{who}, n) }

// drawn answers what draws numbers below n: of no chance, but reckoned.
func drawn(seed int) func(n int) int {
	x := uint64(seed)*0x9e3779b97f4a7c15 + 1
	return func(n int) int {
		x = x*6364136223846793005 + 1442695040888963407
		return int((x >> 33) % uint64(n))
	}
}

func TestPlayByHand(t *testing.T) { // P13.2: written out; head 4, tail 5; with room for 2, sequences 6 and 7, values 8 and 9
	none := api.Frame{Op: -1}
	put7 := [][]api.Frame{puts(7)}
	for i, x := range []struct {
		room     int
		calls    [][]api.Frame
		who      []int
		m        api.Mem
		over, at []api.Frame
	}{
		{1, nil, nil, api.Mem{11: 0}, nil, nil},
		{1, nil, turns(9, 0), api.Mem{11: 0}, nil, nil},
		{16, [][]api.Frame{nil, nil}, []int{0, 1}, api.Mem{41: 0}, nil, []api.Frame{none, none}},
		{2, put7, nil, api.Mem{13: 0}, nil, []api.Frame{none}},
		{2, put7, turns(1, 0), api.Mem{13: 0}, nil, []api.Frame{{Op: 3, Pc: 1, Val: 7}}},
		{2, put7, turns(2, 0), api.Mem{13: 0}, nil, []api.Frame{{Op: 3, Pc: 2, Val: 7}}},
		{2, put7, turns(3, 0), api.Mem{5: 1, 13: 0}, nil, []api.Frame{{Op: 3, Pc: 3, Val: 7}}},
		{2, put7, turns(4, 0), api.Mem{5: 1, 8: 7, 13: 0}, nil, []api.Frame{{Op: 3, Pc: 4, Val: 7}}},
		{2, put7, turns(5, 0), api.Mem{5: 1, 6: 1, 8: 7, 13: 0}, []api.Frame{done(in, 0, 7)}, []api.Frame{none}},
		{2, put7, turns(99, 0), api.Mem{5: 1, 6: 1, 8: 7, 13: 0}, []api.Frame{done(in, 0, 7)}, []api.Frame{none}},
		{2, [][]api.Frame{puts(7, 8)}, turns(6, 0), api.Mem{5: 1, 6: 1, 8: 7, 13: 0}, []api.Frame{done(in, 0, 7)}, []api.Frame{{Op: 3, Pc: 1, Val: 8, X: 1}}},
		{1, [][]api.Frame{puts(7, 8)}, turns(7, 0), api.Mem{5: 1, 6: 1, 7: 7, 11: 0}, []api.Frame{done(in, 0, 7), late(0, 8)}, []api.Frame{none}},
		{2, [][]api.Frame{nil, takes(2)}, turns(3, 1), api.Mem{13: 0}, []api.Frame{gone(1)}, []api.Frame{none, {Op: 4, Pc: 1, Who: 1}}},
		{2, [][]api.Frame{puts(7), takes(1)}, slices.Concat(turns(5, 0), turns(4, 1)), api.Mem{4: 1, 5: 1, 6: 1, 8: 7, 13: 0}, []api.Frame{done(in, 0, 7)}, []api.Frame{none, {Op: 4, Pc: 4, Who: 1, Val: 7, Y: 1}}},
		{2, [][]api.Frame{puts(7), takes(1)}, slices.Concat(turns(5, 0), turns(5, 1)), api.Mem{4: 1, 5: 1, 6: 2, 8: 7, 13: 0}, []api.Frame{done(in, 0, 7), done(out, 1, 7)}, []api.Frame{none, none}},
		{2, [][]api.Frame{puts(7), takes(1)}, slices.Concat(turns(4, 0), turns(2, 1), turns(1, 0)), api.Mem{5: 1, 6: 1, 8: 7, 13: 0}, []api.Frame{gone(1), done(in, 0, 7)}, []api.Frame{none, none}},
		{2, [][]api.Frame{puts(7), puts(8)}, []int{0, 1, 0, 1, 1, 0, 1, 1, 0, 0, 0, 0}, api.Mem{5: 2, 6: 1, 7: 0, 8: 8, 9: 7, 13: 0}, []api.Frame{done(in, 1, 8)}, []api.Frame{{Op: 3, Pc: 4, Val: 7, X: 1}, none}},
		{2, [][]api.Frame{puts(7), puts(8)}, []int{0, 1, 0, 1, 1, 0}, api.Mem{5: 1, 13: 0}, nil, []api.Frame{{Op: 3, Val: 7}, {Op: 3, Pc: 3, Who: 1, Val: 8}}},
		{1, [][]api.Frame{both(7, 8)}, turns(20, 0), api.Mem{4: 2, 5: 2, 6: 4, 7: 8, 11: 0}, []api.Frame{done(in, 0, 7), done(out, 0, 7), done(in, 0, 8), done(out, 0, 8)}, []api.Frame{none}},
		{4, [][]api.Frame{7: puts(most)}, []int{7, 7, 8, 7, -1, 7, 0, 7}, api.Mem{5: 1, 6: 1, 10: most, 17: 0}, []api.Frame{done(in, 7, most)}, idle(8)},
	} {
		gotM, over, at := inject.Play(x.room, x.calls, x.who)
		if !slices.Equal(gotM, x.m) || !slices.Equal(over, x.over) || !slices.Equal(at, x.at) {
			t.Errorf("%d: %v, %+v, %+v", i, gotM, over, at)
		}
	}
}

// nothing asks that Play answers nothing three times.
func nothing(t *testing.T, room int, calls [][]api.Frame) {
	t.Helper()
	for _, who := range [][]int{nil, turns(9, 0), {0, 1, 8, 9}} {
		if m, over, at := inject.Play(room, calls, who); len(m)+len(over)+len(at) > 0 {
			t.Fatalf("Play(%d, %+v, %v) = %v, %+v, %+v", room, calls, who, m, over, at)
		}
	}
}

func TestPlayThatMayNotBe(t *testing.T) { // P13.2: no such room, more lists than may be, and both
	for _, room := range noRooms() {
		for many := range 10 {
			nothing(t, room, make([][]api.Frame, many))
			nothing(t, room, slices.Repeat([][]api.Frame{puts(7)}, many))
		}
	}
	for _, many := range []int{9, 10, 16, 100, 256, 257, 1 << 16} {
		for room := range 18 {
			nothing(t, room, make([][]api.Frame, many))
			nothing(t, room, slices.Repeat([][]api.Frame{puts(7)}, many))
			nothing(t, room, slices.Repeat([][]api.Frame{{}}, many))
		}
	}
}

// everyone are so many, in order.
func everyone(n int) []int {
	var who []int
	for i := range n {
		who = append(who, i)
	}
	return who
}

func TestPlayOfEachSize(t *testing.T) { // P13.2: each room, and each number of lists: empty ones, those that put in alone, that take out alone, and both
	for room := 1; room <= 16; room++ {
		for many := range 9 {
			all := make([][]api.Frame, many)
			playsAsTold(t, room, all, slices.Repeat(everyone(9), 3))
			for i := range all {
				all[i] = [][]api.Frame{puts(counted(uint64(100*i), 18)...), takes(20), both(counted(uint64(1000*i), 9)...), {}}[(i+room)%4]
			}
			playsAsTold(t, room, all, nil)
			for i := range many {
				playsAsTold(t, room, all, turns(200, i))
				playsAsTold(t, room, all, slices.Concat(turns(33, i), slices.Repeat(everyone(many), 20), turns(9, i)))
			}
			playsAsTold(t, room, all, slices.Repeat(everyone(many), 100))
			back := everyone(many)
			slices.Reverse(back)
			playsAsTold(t, room, all, slices.Repeat(back, 100))
		}
	}
}

func TestPlayLeavesOtherCallsOut(t *testing.T) { // P13.2: ahead of the first one, between, and behind the last one; they take no turn
	calls := [][]api.Frame{slices.Concat(puts(7, 8), takes(1)), both(9)}
	for _, op := range otherOps() {
		for _, others := range [][]api.Frame{{{Op: op}}, {full(op, 9)}, {full(op, 9), {Op: op}, {Op: api.OpPop}, full(op, 8)}} {
			for i := range calls {
				for at := range len(calls[i]) + 1 {
					with := slices.Clone(calls)
					with[i] = slices.Insert(slices.Clone(calls[i]), at, others...)
					for n := range 17 {
						who := slices.Concat(turns(n, 0), turns(n, 1), []int{0, 1, 0, 1})
						m, over, hand := played(2, calls, who)
						plays(t, 2, with, who, m, over, hand)
					}
				}
			}
		}
		plays(t, 2, [][]api.Frame{{{Op: op}, full(op, 4)}}, turns(9, 0), make(api.Mem, 14), nil, idle(1))
	}
}

func TestPlayBeginsEachCallAnew(t *testing.T) { // P13.2: of what a list has, the Op and the Val alone are taken; who does it is whose list it is
	given := []api.Frame{full(in, 7), full(out, 4), full(in, 0), full(in, most), {Op: in, Pc: -1, Who: math.MinInt, Val: 3, Res: 9}, full(out, 1)}
	var bare []api.Frame
	for _, f := range given {
		bare = append(bare, api.Frame{Op: f.Op, Val: f.Val})
	}
	for i := range 8 {
		all, alike := make([][]api.Frame, 8), make([][]api.Frame, 8)
		all[i], alike[i] = given, bare
		for n := range 32 {
			m, over, at := played(2, alike, turns(n, i))
			plays(t, 2, all, turns(n, i), m, over, at)
		}
		at := idle(8)
		at[i] = api.Frame{Op: out, Pc: 1, Who: i, Val: 4}
		all[i] = []api.Frame{full(out, 4)}
		plays(t, 2, all, turns(1, i), make(api.Mem, 14), nil, at)
		at[i].Op = in
		all[i] = []api.Frame{full(in, 4)}
		plays(t, 2, all, turns(1, i), make(api.Mem, 14), nil, at)
	}
}

func TestPlayOfWhomThereIsNone(t *testing.T) { // P13.2: they do nothing, and take nobody's turn
	for many := range 9 {
		all := make([][]api.Frame, many)
		for i := range all {
			all[i] = both(uint64(10*i), uint64(10*i+1))
		}
		who := slices.Repeat(everyone(many), 13)
		m, over, at := played(2, all, who)
		for _, none := range append(far(), many, many+1, many+8) {
			plays(t, 2, all, turns(9, none), make(api.Mem, 14), nil, idle(many))
			for i := 0; i <= len(who); i += 5 {
				plays(t, 2, all, slices.Insert(slices.Clone(who), i, none), m, over, at)
			}
			plays(t, 2, all, slices.Concat(turns(3, none), who, turns(3, none)), m, over, at)
		}
	}
}

func TestPlayOfOneTurnEach(t *testing.T) { // P13.2: it begins and does its first step in one turn; what is over, and what begins, are two
	calls := slices.Concat(puts(7, 8), takes(1), puts(9, 10), takes(3))
	steps := []int{5, 5, 5, 5, 2, 5, 5, 2} // the fourth one that is put in finds no room, the last one none
	for i := range 8 {
		all := make([][]api.Frame, 8)
		all[i] = calls
		n := 0
		for call, many := range steps {
			for step := range many {
				_, over, at := inject.Play(2, all, turns(n, i))
				idling := at[i].Op == -1
				if len(over) != call || idling != (step == 0) || !idling && (at[i].Op != calls[call].Op || at[i].Pc != step) {
					t.Fatalf("%d turns: %+v, %+v", n, over, at)
				}
				n++
			}
		}
	}
}

func TestPlayOfAListThatIsDone(t *testing.T) { // P13.2: it does nothing any more, and all others go on
	for _, calls := range [][]api.Frame{nil, {}, puts(7), both(7), {{Op: api.OpPush}}, takes(1)} {
		for i := range 3 {
			all := [][]api.Frame{puts(50, 51, 52), takes(3), both(60)}
			all[i] = calls
			m, over, at := played(2, all, turns(20, i))
			for _, n := range []int{21, 22, 100} {
				plays(t, 2, all, turns(n, i), m, over, at)
				playsAsTold(t, 2, all, slices.Concat(turns(n, i), slices.Repeat([]int{i, 0, 1, i, 2}, 30)))
			}
		}
	}
}

// inAllScripts hands on all lists of n who are below many; the list is changed behind each.
func inAllScripts(many, n int, do func(who []int)) {
	who := make([]int, n)
	for {
		do(who)
		i := 0
		for i < n && who[i] == many-1 {
			who[i] = 0
			i++
		}
		if i == n {
			return
		}
		who[i]++
	}
}

// pairs are two who put in, and take out.
func pairs() [][][]api.Frame {
	return [][][]api.Frame{
		{puts(1), takes(1)},
		{puts(1, 2), takes(2)},
		{puts(1, 2), puts(31, 32)},
		{takes(2), takes(2)},
		{both(1), both(31)},
		{both(1), slices.Concat(takes(1), puts(31))},
	}
}

// threes are three who put in, and take out.
func threes() [][][]api.Frame {
	return [][][]api.Frame{
		{puts(1), puts(31), takes(2)},
		{puts(1), takes(1), takes(1)},
		{both(1), both(31), both(51)},
	}
}

// starts are some turns that the first one has ahead: none, those of one call, and of two.
func starts() []int { return []int{0, 5, 10} }

func TestPlayInAllOrders(t *testing.T) { // P13.2: all lists of who, of two and of three, ahead of which the first one did some
	for _, room := range []int{1, 2, 3} {
		for _, ahead := range starts() {
			first := turns(ahead, 0)
			for _, all := range pairs() {
				inAllScripts(2, 12, func(who []int) { playsAsTold(t, room, all, append(first[:ahead:ahead], who...)) })
			}
			for _, all := range threes() {
				inAllScripts(3, 7, func(who []int) { playsAsTold(t, room, all, append(first[:ahead:ahead], who...)) })
			}
		}
	}
}

// script is who, drawn, some of them more often than others; some are none.
func script(draw func(n int) int, many, n int) []int {
	var who []int
	often := draw(many + 1)
	for range n {
		switch draw(8) {
		case 0, 1:
			who = append(who, often)
		case 2:
			who = append(who, -1-draw(3))
		default:
			who = append(who, draw(many+1))
		}
	}
	return who
}

// lists are as many lists of drawn calls, each that puts in with a number of its own: 1000 times whose it is, and which; some are others.
func lists(draw func(n int) int, many, n int) [][]api.Frame {
	all := make([][]api.Frame, many)
	for i := range all {
		leans := draw(9)
		for k := range n {
			switch val := uint64(1000*i + k); {
			case draw(9) == 0:
				all[i] = append(all[i], full([]int{0, 1, 2, 5, 6, 7, 8, -1}[draw(8)], val))
			case draw(9) < leans:
				all[i] = append(all[i], api.Frame{Op: in, Pc: draw(3), Val: val})
			default:
				all[i] = append(all[i], api.Frame{Op: out, Who: draw(3), Val: val})
			}
		}
	}
	return all
}

func TestPlayInDrawnOrders(t *testing.T) { // P13.2: of each room, and each number of lists
	for room := 1; room <= 16; room++ {
		for many := range 9 {
			for seed := range 8 {
				draw := drawn(1000*room + 100*many + seed)
				all := lists(draw, many, draw(40))
				playsAsTold(t, room, all, script(draw, many, draw(1200)))
			}
		}
	}
}
