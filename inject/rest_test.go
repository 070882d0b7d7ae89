package inject_test

import (
	"slices"
	"testing"

	"poacher/api"
	"poacher/inject"
)

// restedIn is told anew, with so many rounds, and without the packages below.
func restedIn(rounds int, m api.Mem, at []api.Frame) (api.Mem, []api.Frame) {
	m, at = slices.Clone(m), slices.Clone(at)
	for range rounds {
		for i := range at {
			for n := 0; n < 20 && at[i].Op != -1 && at[i].Res == 0; n++ {
				tell(m, &at[i])
			}
		}
	}
	return m, at
}

// rests asks that Rest answers these.
func rests(t *testing.T, room int, m api.Mem, at []api.Frame, want api.Mem, calls []api.Frame) {
	t.Helper()
	got, l := inject.Rest(room, m, at)
	if !slices.Equal(got, want) || !slices.Equal(l, calls) {
		t.Fatalf("Rest(%d, %v, %+v) = %v, %+v, want %v, %+v", room, m, at, got, l, want, calls)
	}
}

// restsAsTold asks that Rest answers what is told anew.
func restsAsTold(t *testing.T, room int, m api.Mem, at []api.Frame) {
	t.Helper()
	want, l := restedIn(10, m, at)
	rests(t, room, m, at, want, l)
}

// cells2 are those of an injector with room for 2, of which the last ones are a worker's.
func cells2(head, tail, seq0, seq1, val0, val1 uint64) api.Mem {
	return api.Mem{0, 0, 0, 0, head, tail, seq0, seq1, val0, val1, 0, 0, 0, 0}
}

func TestRestByHand(t *testing.T) { // P13.3: written out, with room for 2
	put7, take := api.Frame{Op: in, Val: 7}, api.Frame{Op: out}
	none, nones := api.Frame{Op: -1}, api.Frame{Op: -1, Pc: 2, Who: 3, Val: 4, X: 5, Y: 6}
	empty, one, two := cells2(0, 0, 0, 0, 0, 0), cells2(0, 1, 1, 0, 50, 0), cells2(0, 2, 1, 1, 50, 51)
	for i, x := range []struct {
		m    api.Mem
		at   []api.Frame
		want api.Mem
		l    []api.Frame
	}{
		{empty, nil, empty, nil},
		{two, nil, two, nil},
		{one, []api.Frame{none, nones}, one, []api.Frame{none, nones}},
		{empty, []api.Frame{put7}, cells2(0, 1, 1, 0, 7, 0), []api.Frame{done(in, 0, 7)}},
		{empty, []api.Frame{put7, put7, put7}, cells2(0, 2, 1, 1, 7, 7), []api.Frame{done(in, 0, 7), done(in, 0, 7), late(0, 7)}},
		{empty, []api.Frame{put7, take, take}, cells2(1, 1, 2, 0, 7, 0), []api.Frame{done(in, 0, 7), done(out, 0, 7), gone(0)}},
		{empty, []api.Frame{take, put7}, cells2(0, 1, 1, 0, 7, 0), []api.Frame{gone(0), done(in, 0, 7)}},
		{two, []api.Frame{put7, take, put7}, cells2(1, 3, 3, 1, 7, 51), []api.Frame{late(0, 7), done(out, 0, 50), done(in, 0, 7)}},
		{one, []api.Frame{none, take, nones, {Op: out, Who: 5, Val: 9}}, cells2(1, 1, 2, 0, 50, 0), []api.Frame{none, done(out, 0, 50), nones, gone(5)}},
		{cells2(0, 1, 0, 0, 0, 0), []api.Frame{{Op: in, Pc: 3, Val: 7}, {Op: out, Pc: 1}}, cells2(1, 1, 2, 0, 7, 0), []api.Frame{done(in, 0, 7), done(out, 0, 7)}},
		{cells2(1, 2, 1, 1, 50, 51), []api.Frame{put7, {Op: out, Pc: 3}}, cells2(1, 2, 2, 1, 50, 51), []api.Frame{late(0, 7), done(out, 0, 50)}},
		{one, []api.Frame{done(out, 1, 9), gone(2), late(3, 4), nones}, one, []api.Frame{done(out, 1, 9), gone(2), late(3, 4), nones}},
		{one, []api.Frame{{Op: api.OpPush, Val: 3}, {Op: 8}, take, {Op: in, Pc: 5, Val: 6}, {Op: out, Pc: -1}}, cells2(1, 1, 2, 0, 50, 0),
			[]api.Frame{{Op: api.OpPush, Val: 3}, {Op: 8}, done(out, 0, 50), {Op: in, Pc: 5, Val: 6}, {Op: out, Pc: -1}}},
	} {
		got, l := inject.Rest(2, x.m, x.at)
		if !slices.Equal(got, x.want) || !slices.Equal(l, x.l) {
			t.Errorf("%d: %v, %+v", i, got, l)
		}
	}
}

func TestRestThatMayNotBe(t *testing.T) { // P13.3: no such room, and one cell fewer, one more, and none: nothing twice
	nothing := func(room int, m api.Mem) {
		t.Helper()
		for _, at := range [][]api.Frame{nil, idle(2), puts(7), takes(9), {full(in, 4)}} {
			if got, l := inject.Rest(room, m, at); len(got)+len(l) > 0 {
				t.Fatalf("Rest(%d, %v, %+v) = %v, %+v", room, m, at, got, l)
			}
		}
	}
	for _, room := range noRooms() {
		for _, n := range []int{0, 1, 8, 10, 11, 12, 14, 42, 43, 44} {
			nothing(room, filled(n))
		}
		if 0 < room && room < 100 {
			nothing(room, filled(sizeOf(room)))
		}
		nothing(room, nil)
	}
	for room := 1; room <= 16; room++ {
		for n := range 60 {
			if n != sizeOf(room) {
				nothing(room, filled(n))
			}
		}
		nothing(room, nil)
	}
}

func TestRestOfEachStep(t *testing.T) { // P13.3: at each Pc, at injectors that are empty, have one, more, and are full, and at any cells
	for room := 1; room <= 16; room++ {
		c := alone(room)
		for _, head := range heads(c) {
			for _, many := range fills(c) {
				tail := head + uint64(many)
				for _, m := range []api.Mem{holding(c, head, counted(50, many)...), filled(sizeOf(room))} {
					var all []api.Frame
					for _, op := range []int{in, out} {
						for pc := range 5 {
							for _, x := range []uint64{head, tail, head - 1, tail + 1} {
								f := api.Frame{Op: op, Pc: pc, Who: 3, Val: 77, X: x, Y: x}
								all = append(all, f)
								restsAsTold(t, room, m, []api.Frame{f})
								restsAsTold(t, room, m, []api.Frame{{Op: -1}, {Op: out}, f, {Op: in, Val: 78}, {Op: -1}, {Op: out}})
							}
						}
					}
					restsAsTold(t, room, m, all)
				}
			}
		}
	}
}

func TestRestOfOneThatStays(t *testing.T) { // P13.3: no call, one that is over, one of another Op, and one that does not go on; the next one has its turn all the same
	stays := []api.Frame{{Op: -1}, {Op: -1, Pc: 1, Who: 2, Val: 3, X: 4, Y: 5, Res: 1}, full(in, 4), full(out, 4)}
	for _, op := range otherOps() {
		stays = append(stays, api.Frame{Op: op}, api.Frame{Op: op, Pc: 2, Val: 4, X: 5, Y: 6}, full(op, 4))
	}
	for _, op := range []int{in, out} {
		for _, n := range noPcs() {
			stays = append(stays, api.Frame{Op: op, Pc: n}, api.Frame{Op: op, Res: n})
		}
		for res := 1; res <= 5; res++ {
			stays = append(stays, api.Frame{Op: op, Res: res}, api.Frame{Op: op, Pc: 2, Val: 4, X: 5, Y: 6, Res: res})
		}
	}
	for room := 1; room <= 16; room++ {
		c := alone(room)
		m := holding(c, 3, 50)
		rests(t, room, m, stays, m, stays)
		end := slices.Clone(m)
		end[headAt], end[seqAt(c, 3)] = 4, free(c, 3)+2
		for _, f := range stays {
			rests(t, room, m, []api.Frame{f}, m, []api.Frame{f})
			rests(t, room, m, []api.Frame{f, {Op: out}, f}, end, []api.Frame{f, done(out, 0, 50), f})
		}
	}
}

func TestRestInOrder(t *testing.T) { // P13.3: each one till it is over, ahead of the next one, however many there are
	for room := 1; room <= 16; room++ {
		c := alone(room)
		var at, want []api.Frame
		for n := range room + 3 {
			val := uint64(n + 1)
			at = append(at, api.Frame{Op: in, Who: n, Val: val})
			want = append(want, done(in, n, val))
			if n >= room {
				want[n] = late(n, val)
			}
		}
		for n := range room + 30 {
			at = append(at, api.Frame{Op: out, Who: n, Val: 9})
			want = append(want, done(out, n, uint64(n+1)))
			if n >= room {
				want[len(want)-1] = gone(n)
			}
		}
		m := holding(c, 0)
		end := slices.Clone(m)
		end[headAt], end[tailAt] = uint64(room), uint64(room)
		for n := range uint64(room) {
			end[seqAt(c, n)], end[valAt(c, n)] = 2, n+1
		}
		rests(t, room, m, at, end, want)
	}
}

func TestRestGivesEachSevenSteps(t *testing.T) { // P13.3: one whose place was never the tail, or the head, begins anew, and is over in the same round
	m, last := cells2(0, 0, 0, 0, 0, 0), cells2(1, 1, 2, 0, 7, 0)
	rests(t, 2, m, []api.Frame{{Op: in, Pc: 1, Val: 7, X: 1}, {Op: out}}, last, []api.Frame{done(in, 0, 7), done(out, 0, 7)})
	m, last = cells2(0, 2, 1, 1, 50, 51), cells2(1, 3, 3, 1, 7, 51)
	rests(t, 2, m, []api.Frame{{Op: out, Pc: 1, X: 1}, {Op: in, Val: 7}}, last, []api.Frame{done(out, 0, 50), done(in, 0, 7)})
}

func TestRestInALaterRound(t *testing.T) { // P13.3: one that begins anew, again and again, till another one has exchanged its place
	take, put := api.Frame{Op: out}, api.Frame{Op: in, Val: 7}
	over := func(val uint64) api.Frame { return done(out, 0, val) }
	for i, x := range []struct {
		m    api.Mem
		at   []api.Frame
		want api.Mem
		l    []api.Frame
	}{
		// Place 0 was taken, but the head is still there: the second one turns it, and the first one has place 1.
		{cells2(0, 2, 2, 1, 50, 51), []api.Frame{take, {Op: out, Pc: 2}}, cells2(2, 2, 2, 2, 50, 51), []api.Frame{over(51), over(50)}},
		{cells2(0, 1, 2, 0, 50, 51), []api.Frame{take, {Op: out, Pc: 2}}, cells2(1, 1, 2, 0, 50, 51), []api.Frame{gone(0), over(50)}},
		// Likewise of the tail.
		{cells2(0, 0, 1, 0, 50, 51), []api.Frame{put, {Op: in, Pc: 2, Val: 8}}, cells2(0, 2, 1, 1, 8, 7), []api.Frame{done(in, 0, 7), done(in, 0, 8)}},
		// The last one turns the head to a place that the second one takes, in the second round; by that its sequence lies 2^63 behind, and the first one finds no room, in the third one.
		{cells2(1<<63-3, 0, 1<<63-1, 1<<63-2, 50, 51), []api.Frame{put, take, {Op: out, Pc: 2, X: 1<<63 - 3}}, cells2(1<<63-1, 0, 1<<63, 1<<63-2, 50, 51), []api.Frame{late(0, 7), over(50), over(51)}},
	} {
		got, l := inject.Rest(2, x.m, x.at)
		if !slices.Equal(got, x.want) || !slices.Equal(l, x.l) {
			t.Errorf("%d: %v, %+v", i, got, l)
		}
	}
}

func TestRestOfOneThatIsNeverOver(t *testing.T) { // P13.3: of ten rounds each ends where it began, with what it has loaded since; all others are over
	m := cells2(0, 0, 2, 0, 50, 51)
	for _, op := range []int{in, out} {
		for pc := range 2 {
			f, g := api.Frame{Op: op, Pc: pc, Who: 2, Val: 7, Y: 9}, api.Frame{Op: op, Pc: pc, Who: 2, Val: 7, Y: 2}
			rests(t, 2, m, []api.Frame{f}, m, []api.Frame{g})
			rests(t, 2, m, []api.Frame{f, {Op: out, Pc: 4, Val: 3, X: 1}, f}, cells2(0, 0, 2, 2, 50, 51), []api.Frame{g, done(out, 0, 3), g})
		}
		// The exchange is not done: the call begins anew with one step gone.
		rests(t, 2, m, []api.Frame{{Op: op, Pc: 2, Val: 7, X: 4}}, m, []api.Frame{{Op: op, Pc: 1, Val: 7, Y: 2}})
	}
}

// anyCells are drawn, of a few places, and sequences that lie close to those of places, or 2^63 off.
func anyCells(draw func(n int) int, room int) api.Mem {
	place := func() uint64 {
		return []uint64{0, 2, 4, 1 << 62, 1<<63 - 2, 1 << 63, most - 1}[draw(7)] + uint64(draw(5))
	}
	m := filled(sizeOf(room))
	m[headAt], m[tailAt] = place(), place()
	for i := range room {
		x := []uint64{m[headAt], m[tailAt], place()}[draw(3)]
		m[6+i] = free(alone(room), x) + []uint64{0, 1, 2, 3, 1<<63 - 1, 1 << 63, 1<<63 + 1, most}[draw(8)]
	}
	return m
}

func TestRestOfAnyCells(t *testing.T) { // P13.3: of drawn calls at drawn cells, that need one round, two and three
	needed := map[int]int{}
	for seed := range 60000 {
		draw := drawn(seed)
		room := 1 + draw(3)
		m := anyCells(draw, room)
		var at []api.Frame
		for range 1 + draw(5) {
			x := m[[]int{headAt, tailAt}[draw(2)]] + uint64(draw(2))
			at = append(at, api.Frame{Op: in + draw(2), Pc: draw(5), Val: 7, X: x})
		}
		restsAsTold(t, room, m, at)
		end, l := restedIn(10, m, at)
		for rounds := 1; rounds <= 10; rounds++ {
			if then, calls := restedIn(rounds, m, at); slices.Equal(then, end) && slices.Equal(calls, l) {
				needed[rounds]++
				break
			}
		}
	}
	if needed[1] == 0 || needed[2] == 0 || needed[3] == 0 {
		t.Errorf("%v", needed)
	}
}

func TestRestBehindPlay(t *testing.T) { // P13.3: what Play has answered; Rest changes nothing more once all is over
	for room := 1; room <= 16; room++ {
		for many := range 9 {
			for seed := range 8 {
				draw := drawn(7000*room + 100*many + seed)
				m, _, at := inject.Play(room, lists(draw, many, draw(40)), script(draw, many, draw(300)))
				restsAsTold(t, room, m, at)
				end, l := inject.Rest(room, m, at)
				rests(t, room, end, l, end, l)
			}
		}
	}
}
