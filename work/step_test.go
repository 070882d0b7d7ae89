package work_test

import (
	"slices"
	"testing"

	"poacher/api"
	"poacher/work"
)

// two is a layout of two workers, whose 18 cells are told by hand: pending, seek, event, closed, head, tail; a sequence, a value; top, bottom, park and two slots of worker 0, and those of worker 1.
func two() api.Conf { return api.Conf{W: 2, D: 2, I: 1, Spin: 1} }

func started(k int) []api.Ev { return []api.Ev{{Kind: api.EvStart, Task: k}} }

// till is worker 0 behind steps up to where its Pc is another one, which are as many as that; nothing happens ahead of the last one.
func till(t *testing.T, m api.Mem, x api.Work, steps int) (api.Mem, api.Work, []api.Ev) {
	t.Helper()
	pc := x.Pc
	var evs []api.Ev
	for n := 1; n <= steps; n++ {
		m, x, evs = asTold(t, two(), family(), m, 0, x, 0)
		if n < steps && (x.Pc != pc || len(evs) > 0) {
			t.Fatalf("step %d of %d: %+v, %v", n, steps, x, evs)
		}
	}
	if x.Pc == pc {
		t.Fatalf("%+v behind %d steps", x, steps)
	}
	return m, x, evs
}

// with is that many cells that are noughts, with these numbers at these places.
func with(numbers map[int]uint64) api.Mem {
	m := make(api.Mem, 18)
	for i, n := range numbers {
		m[i] = n
	}
	return m
}

// become holds what is against what it should be.
func become(t *testing.T, what string, m, wantM api.Mem, x, want api.Work, evs, wantEvs []api.Ev) {
	t.Helper()
	if !slices.Equal(m, wantM) || !same(x, want) || !slices.Equal(evs, wantEvs) {
		t.Errorf("%s: %v, %+v, %v\nnot %v, %+v, %v", what, m, x, evs, wantM, want, wantEvs)
	}
}

func TestPop(t *testing.T) { // P18.2: WkPop, a call to its end
	ahead := []api.Item{item(0, 2, 1)}
	x := api.Work{Pc: api.WkPop, Stack: ahead, F: call(api.OpPop, 0, 0), Spins: 2, Look: 1}
	for _, c := range []struct {
		what  string
		m     map[int]uint64
		steps int
		want  api.Work
		wantM map[int]uint64
		evs   []api.Ev
	}{
		{"nothing there", nil, 4, api.Work{Pc: api.WkSeek, Stack: ahead, Spins: 2, Look: 1}, nil, nil},
		{"two there", map[int]uint64{9: 2, 11: 3, 12: 1}, 4, api.Work{Pc: api.WkRun, Stack: append(slices.Clone(ahead), item(1, 0, 0)), Spins: 2, Look: 1}, map[int]uint64{9: 1, 11: 3, 12: 1}, started(1)},
		{"one there", map[int]uint64{9: 1, 11: 4}, 6, api.Work{Pc: api.WkRun, Stack: append(slices.Clone(ahead), item(4, 0, 0)), Spins: 2, Look: 1}, map[int]uint64{8: 1, 9: 1, 11: 4}, started(4)},
		{"one there that is no task", map[int]uint64{9: 1, 11: 5}, 6, api.Work{Pc: api.WkRun, Stack: ahead, Spins: 2, Look: 1}, map[int]uint64{8: 1, 9: 1, 11: 5}, started(5)},
		{"the largest number there", map[int]uint64{9: 1, 11: most}, 6, api.Work{Pc: api.WkRun, Stack: ahead, Spins: 2, Look: 1}, map[int]uint64{8: 1, 9: 1, 11: most}, started(-1)},
	} {
		m, y, evs := till(t, with(c.m), x, c.steps)
		become(t, c.what, m, with(c.wantM), y, c.want, evs, c.evs)
	}
}

func TestPopOfOneThatWasStolen(t *testing.T) { // P18.2: somebody else was quicker, in the midst of the call
	m, x := with(map[int]uint64{9: 1, 11: 4}), work.New(0)
	for range 4 {
		m, x, _ = asTold(t, two(), family(), m, 0, x, 0)
	}
	m[8]++
	m, x, evs := till(t, m, x, 2)
	become(t, "stolen", m, with(map[int]uint64{8: 1, 9: 1, 11: 4}), x, api.Work{Pc: api.WkSeek}, evs, nil)
}

func TestSeek(t *testing.T) { // P18.2: WkSeek; R4: the tasks and Look stay
	x := api.Work{Pc: api.WkSeek, Stack: []api.Item{item(1, 0, 0)}, F: over(api.OpPop, 3, 8), Spins: 7, Look: 2}
	m, y, evs := till(t, with(map[int]uint64{1: 1}), x, 1)
	become(t, "seek", m, with(map[int]uint64{1: 2}), y, api.Work{Pc: api.WkDeq, Stack: x.Stack, F: call(api.OpDeq, 0, 0), Spins: 1, Look: 2}, evs, nil)
}

func TestDeqAndFound(t *testing.T) { // P18.2: WkDeq that finds one, and WkFound behind it
	x := api.Work{Pc: api.WkDeq, F: call(api.OpDeq, 0, 0), Spins: 1}
	full := map[int]uint64{1: 1, 5: 1, 6: 1, 7: 3}
	m, y, evs := till(t, with(full), x, 5)
	taken := map[int]uint64{1: 1, 4: 1, 5: 1, 6: 2, 7: 3}
	become(t, "found", m, with(taken), y, api.Work{Pc: api.WkFound, F: over(api.OpDeq, api.ResOk, 3), Spins: 1}, evs, nil)
	m, y, evs = till(t, m, y, 1)
	taken[1] = 0
	become(t, "started", m, with(taken), y, api.Work{Pc: api.WkWake, Stack: []api.Item{item(3, 0, 0)}, F: call(api.OpNote, 0, 0), Spins: 1}, evs, started(3))
}

func TestFoundWhileOthersSeek(t *testing.T) { // P18.2: WkFound that had 2; of each task, and of numbers that are none
	for _, v := range values() {
		x := api.Work{Pc: api.WkFound, F: over(api.OpSteal, api.ResOk, v), Look: 1}
		want := api.Work{Pc: api.WkRun, Look: 1}
		if v < 5 {
			want.Stack = []api.Item{{Task: int(v)}}
		}
		m, y, evs := till(t, with(map[int]uint64{1: 2}), x, 1)
		become(t, "found", m, with(map[int]uint64{1: 1}), y, want, evs, started(int(v)))
	}
}

func TestDeqAndSteal(t *testing.T) { // P18.2: WkDeq that finds none, WkSteal, and what has failed
	x := api.Work{Pc: api.WkDeq, F: call(api.OpDeq, 0, 0), Spins: 1}
	m, x, evs := till(t, with(nil), x, 2)
	become(t, "none in the injector", m, with(nil), x, api.Work{Pc: api.WkSteal, F: call(api.OpSteal, 1, 0), Spins: 1}, evs, nil)
	m, y, evs := till(t, with(map[int]uint64{14: 2, 16: 2, 17: 3}), x, 4)
	become(t, "stolen", m, with(map[int]uint64{13: 1, 14: 2, 16: 2, 17: 3}), y, api.Work{Pc: api.WkFound, F: api.Frame{Op: api.OpSteal, Who: 1, Val: 2, Res: api.ResOk}, Spins: 1}, evs, nil)
	m, y, evs = till(t, with(nil), x, 2)
	become(t, "failed", m, with(nil), y, api.Work{Pc: api.WkDeq, F: call(api.OpDeq, 0, 0)}, evs, nil)
	x.Spins = 0
	m, y, evs = till(t, with(nil), x, 2)
	become(t, "failed for the last time", m, with(nil), y, api.Work{Pc: api.WkPrep, F: call(api.OpWait, 0, 0)}, evs, nil)
}

func TestStealWhereAnotherOneWasQuicker(t *testing.T) { // P18.2: WkSteal that ends by ResAbort
	for _, spins := range []int{0, 3} {
		m, x := with(map[int]uint64{14: 2, 16: 2, 17: 3}), api.Work{Pc: api.WkSteal, F: call(api.OpSteal, 1, 0), Spins: spins}
		for range 3 {
			m, x, _ = asTold(t, two(), family(), m, 0, x, 0)
		}
		m[13]++
		m, x, evs := till(t, m, x, 1)
		want := api.Work{Pc: api.WkPrep, F: call(api.OpWait, 0, 0)}
		if spins > 0 {
			want = api.Work{Pc: api.WkDeq, F: call(api.OpDeq, 0, 0), Spins: spins - 1}
		}
		become(t, "aborted", m, with(map[int]uint64{13: 1, 14: 2, 16: 2, 17: 3}), x, want, evs, nil)
	}
}

func TestPrepareAndLeave(t *testing.T) { // P18.2: WkPrep, one step, whether it ends or not, and WkLeave
	start := map[int]uint64{1: 2, 2: 9 << 16}
	x := api.Work{Pc: api.WkPrep, F: call(api.OpWait, 0, 0), Look: 5}
	m, y, evs := till(t, with(start), x, 1)
	prepared := api.Frame{Op: api.OpWait, Pc: 1, X: 9 << 16}
	become(t, "prepared", m, with(start), y, api.Work{Pc: api.WkLeave, F: prepared, Look: 5}, evs, nil)
	m, y, evs = till(t, m, y, 1)
	become(t, "left", m, with(map[int]uint64{1: 1, 2: 9 << 16}), y, api.Work{Pc: api.WkLook, F: prepared}, evs, nil)
	for res := 1; res <= 4; res++ {
		x.F = over(api.OpWait, res, 6)
		m, y, evs = till(t, with(start), x, 1)
		become(t, "over", m, with(start), y, api.Work{Pc: api.WkLeave, F: x.F, Look: 5}, evs, nil)
	}
}

func TestLookAtNothing(t *testing.T) { // P18.2: WkLook, six looks at two workers, and WkCommit
	start := map[int]uint64{2: 9 << 16, 4: 5, 5: 5, 8: 3, 9: 2, 13: most, 14: most}
	prepared := api.Frame{Op: api.OpWait, Pc: 1, X: 9 << 16}
	m, x := with(start), api.Work{Pc: api.WkLook, F: prepared, Spins: 1}
	for i, val := range []uint64{5, 5, 3, 3, most} {
		var evs []api.Ev
		m, x, evs = asTold(t, two(), family(), m, 0, x, 0)
		f := prepared
		f.Val = val
		become(t, "looked", m, with(start), x, api.Work{Pc: api.WkLook, F: f, Spins: 1, Look: i + 1}, evs, nil)
	}
	m, x, evs := till(t, m, x, 1)
	become(t, "looked at all", m, with(start), x, api.Work{Pc: api.WkCommit, F: prepared, Spins: 1}, evs, nil)
}

func TestLookAtSomething(t *testing.T) { // P18.2: WkLook, wherever there is something, also around 2^64
	for i, x := range []struct {
		m     map[int]uint64
		steps int
		look  int
	}{
		{map[int]uint64{5: 1}, 2, 1}, {map[int]uint64{4: 1}, 2, 1}, {map[int]uint64{4: most}, 2, 1}, {map[int]uint64{5: 1 << 63}, 2, 1},
		{map[int]uint64{9: 1}, 4, 3}, {map[int]uint64{8: most}, 4, 3}, {map[int]uint64{8: most, 9: 1, 14: 1}, 4, 3}, {map[int]uint64{9: 1<<63 - 1}, 4, 3},
		{map[int]uint64{14: 2}, 6, 5}, {map[int]uint64{8: 1, 9: 0, 14: 2}, 6, 5}, {map[int]uint64{13: most - 1, 14: most}, 6, 5}, {map[int]uint64{9: 1 << 63, 13: most}, 6, 5},
	} {
		m, y, evs := till(t, with(x.m), api.Work{Pc: api.WkLook, F: api.Frame{Op: api.OpWait, Pc: 1}}, x.steps)
		if !slices.Equal(m, with(x.m)) || !same(y, api.Work{Pc: api.WkSeek, Look: x.look}) || len(evs) > 0 {
			t.Errorf("%d: %v, %+v, %v", i, m, y, evs)
		}
	}
}

func TestLookAtNoPlace(t *testing.T) { // P18.2: a Look that is none of those there are
	for _, l := range append(far(), 6, 7, 8, 9) {
		x := api.Work{Pc: api.WkLook, F: api.Frame{Op: api.OpWait, Pc: 1, Val: 7, X: 8, Y: 9}, Look: l}
		m, y, evs := till(t, with(map[int]uint64{5: 1, 9: 1, 14: 1}), x, 1)
		become(t, "nowhere", m, with(map[int]uint64{5: 1, 9: 1, 14: 1}), y, api.Work{Pc: api.WkCommit, F: api.Frame{Op: api.OpWait, Pc: 1, X: 8, Y: 9}}, evs, nil)
	}
}

func TestCommit(t *testing.T) { // P18.2: WkCommit, aborted, or parked till it is woken
	x := api.Work{Pc: api.WkCommit, Stack: []api.Item{item(2, 0, 0)}, F: api.Frame{Op: api.OpWait, Pc: 1, X: 4 << 16}, Spins: 1, Look: 2}
	gone := api.Work{Pc: api.WkSeek, Stack: x.Stack, Spins: 1, Look: 2}
	m, y, evs := till(t, with(map[int]uint64{2: 5 << 16}), x, 1)
	become(t, "aborted", m, with(map[int]uint64{2: 5 << 16}), y, gone, evs, nil)
	m, y = with(map[int]uint64{2: 4<<16 | 2}), x
	for n := range 9 {
		if work.Parked(y) != (n >= 2) {
			t.Fatalf("step %d: %+v", n, y)
		}
		m, y, _ = asTold(t, two(), family(), m, 0, y, 0)
	}
	if !slices.Equal(m, with(map[int]uint64{2: 4<<16 | 3})) {
		t.Error(m)
	}
	m[10] = 1
	m, y, evs = till(t, m, y, 2)
	become(t, "woken", m, with(map[int]uint64{2: 4<<16 | 3}), y, gone, evs, nil)
}

func TestRunOfEachAct(t *testing.T) { // P18.2: WkRun; R4: the call stays, but where one goes to WkPop
	f := over(api.OpPush, 1, 7)
	for _, x := range []struct {
		s, behind []api.Item
		pc        int
	}{
		{[]api.Item{item(0, 0, 0)}, []api.Item{item(0, 1, 0)}, api.WkRun}, {[]api.Item{item(3, 0, 0), item(4, 19, 0)}, []api.Item{item(3, 0, 0), item(4, 20, 0)}, api.WkRun},
		{[]api.Item{item(0, 2, 0)}, []api.Item{item(0, 2, 0)}, api.WkPend}, {[]api.Item{item(3, 0, 0), item(1, 1, 0)}, []api.Item{item(3, 0, 0), item(1, 1, 0)}, api.WkPend},
		{[]api.Item{item(0, 2, 2)}, []api.Item{item(0, 2, 2)}, api.WkDone}, {[]api.Item{item(0, 2, 0), item(2, 0, 0)}, []api.Item{item(0, 2, 0), item(2, 0, 0)}, api.WkDone},
	} {
		m, y, evs := asTold(t, two(), family(), with(map[int]uint64{0: 2}), 1, api.Work{Pc: api.WkRun, Stack: x.s, F: f, Spins: 1, Look: 1}, 0)
		become(t, "act", m, with(map[int]uint64{0: 2}), y, api.Work{Pc: x.pc, Stack: x.behind, F: f, Spins: 1, Look: 1}, evs, nil)
	}
	m, y, evs := asTold(t, two(), family(), with(map[int]uint64{0: 2}), 1, api.Work{Pc: api.WkRun, F: f, Spins: 1, Look: 1}, 0)
	become(t, "no act", m, with(map[int]uint64{0: 2}), y, api.Work{Pc: api.WkPop, F: call(api.OpPop, 1, 0), Spins: 1, Look: 1}, evs, nil)
}

func TestSpawn(t *testing.T) { // P18.2: WkPend, WkPush with room, WkSee and WkWake
	x := api.Work{Pc: api.WkPend, Stack: []api.Item{item(0, 2, 1)}, F: over(api.OpPop, 1, 0)}
	spawned := []api.Item{item(0, 2, 2)}
	m, x, evs := till(t, with(map[int]uint64{0: 1, 2: 6<<16 | 2}), x, 1)
	become(t, "spawned", m, with(map[int]uint64{0: 2, 2: 6<<16 | 2}), x, api.Work{Pc: api.WkPush, Stack: spawned, F: call(api.OpPush, 0, 3)}, evs, []api.Ev{{Kind: api.EvSpawn, Task: 3}})
	m, x, evs = till(t, m, x, 4)
	become(t, "pushed", m, with(map[int]uint64{0: 2, 2: 6<<16 | 2, 9: 1, 11: 3}), x, api.Work{Pc: api.WkSee, Stack: spawned}, evs, nil)
	seen := slices.Clone(m)
	seen[1] = 1
	a, y, evs := till(t, seen, x, 1)
	become(t, "somebody seeks", a, seen, y, api.Work{Pc: api.WkRun, Stack: spawned}, evs, nil)
	m, x, evs = till(t, m, x, 1)
	become(t, "nobody seeks", m, with(map[int]uint64{0: 2, 2: 6<<16 | 2, 9: 1, 11: 3}), x, api.Work{Pc: api.WkWake, Stack: spawned, F: call(api.OpNote, 0, 0)}, evs, nil)
	m, x, evs = till(t, m, x, 3)
	become(t, "woken", m, with(map[int]uint64{0: 2, 2: 7 << 16, 9: 1, 11: 3, 15: 1}), x, api.Work{Pc: api.WkRun, Stack: spawned}, evs, nil)
}

func TestSpawnWithoutRoom(t *testing.T) { // P18.2: WkPush that is full, WkOver with room, and full
	stack := []api.Item{item(0, 2, 1)}
	full := map[int]uint64{8: 7, 9: 9}
	m, x, evs := till(t, with(full), api.Work{Pc: api.WkPush, Stack: stack, F: call(api.OpPush, 0, 1)}, 2)
	become(t, "full", m, with(full), x, api.Work{Pc: api.WkOver, Stack: stack, F: call(api.OpEnq, 0, 1)}, evs, nil)
	m, y, evs := till(t, with(full), x, 5)
	become(t, "put in", m, with(map[int]uint64{5: 1, 6: 1, 7: 1, 8: 7, 9: 9}), y, api.Work{Pc: api.WkSee, Stack: stack}, evs, nil)
	all := map[int]uint64{5: 1, 6: 1, 7: 4, 8: 7, 9: 9}
	m, y, evs = till(t, with(all), x, 2)
	become(t, "full, too", m, with(all), y, api.Work{Pc: api.WkRun, Stack: []api.Item{item(0, 2, 1), item(1, 0, 0)}}, evs, started(1))
}

func TestWakeOfNobody(t *testing.T) { // P18.2: WkWake that ends by ResEmpty, and one that had ended
	stack := []api.Item{item(0, 2, 1)}
	m, x, evs := till(t, with(nil), api.Work{Pc: api.WkWake, Stack: stack, F: call(api.OpNote, 0, 0)}, 2)
	become(t, "nobody", m, with(map[int]uint64{2: 1 << 16}), x, api.Work{Pc: api.WkRun, Stack: stack}, evs, nil)
	for res := 1; res <= 4; res++ {
		m, x, evs = till(t, with(nil), api.Work{Pc: api.WkWake, Stack: stack, F: over(api.OpNote, res, 3)}, 1)
		become(t, "over", m, with(nil), x, api.Work{Pc: api.WkRun, Stack: stack}, evs, nil)
	}
}

func TestActsThatAreNotTheirs(t *testing.T) { // P18.2: WkPend and WkDone at another act; nothing is added, or taken
	for _, s := range [][]api.Item{nil, {item(0, 0, 0)}, {item(0, 2, 2)}, {item(0, 2, 0), item(1, 1, 1)}, {item(2, 0, 0), item(4, 3, 0)}} {
		m, x, evs := till(t, with(map[int]uint64{0: 1}), api.Work{Pc: api.WkPend, Stack: s, F: call(0, 1, 2), Spins: 1, Look: 1}, 1)
		become(t, "no spawn", m, with(map[int]uint64{0: 1}), x, api.Work{Pc: api.WkRun, Stack: s, Spins: 1, Look: 1}, evs, nil)
	}
	for _, s := range [][]api.Item{nil, {item(0, 0, 0)}, {item(0, 2, 1)}, {item(2, 0, 0), item(1, 1, 0)}, {item(2, 0, 0), item(4, 3, 0)}} {
		m, x, evs := till(t, with(map[int]uint64{0: 1}), api.Work{Pc: api.WkDone, Stack: s, F: call(0, 1, 2), Spins: 1, Look: 1}, 1)
		become(t, "not done", m, with(map[int]uint64{0: 1}), x, api.Work{Pc: api.WkRun, Stack: s, Spins: 1, Look: 1}, evs, nil)
	}
}

func TestDone(t *testing.T) { // P18.2: WkDone, the last one pending or not, of one item or more; who is told, and EvIdle behind EvFinish, of task 0
	for n, left := range map[uint64]uint64{0: most, 1: 0, 2: 1, 1<<32 + 1: 1 << 32, most: most - 1} {
		evs := []api.Ev{{Kind: api.EvFinish, Task: 3, Who: 1}}
		if n == 1 {
			evs = append(evs, api.Ev{Kind: api.EvIdle, Who: 1})
		}
		for _, ahead := range [][]api.Item{nil, {item(0, 2, 2)}, {item(0, 2, 2), item(4, 3, 0)}} {
			want := api.Work{Pc: api.WkRun, Stack: ahead, Spins: 1, Look: 1}
			if len(ahead) == 0 {
				want.Pc, want.F = api.WkPop, call(api.OpPop, 1, 0)
			}
			x := api.Work{Pc: api.WkDone, Stack: append(slices.Clone(ahead), item(3, 0, 0)), F: over(api.OpDeq, 1, 3), Spins: 1, Look: 1}
			m, y, happened := asTold(t, two(), family(), with(map[int]uint64{0: n, 1: 1}), 1, x, 0)
			become(t, "done", m, with(map[int]uint64{0: left, 1: 1}), y, want, happened, evs)
		}
	}
}

func TestCallsThatGoNowhere(t *testing.T) { // P18.2: a call that is of no kind, or at no Pc, does nothing, and does not end
	for _, pc := range withCalls() {
		for _, n := range append(far(), 8, 9) {
			for _, f := range []api.Frame{{Op: n, Val: 3, X: 4}, {Op: api.OpWait, Pc: n}, {Op: api.OpPush, Who: n}, {Op: api.OpEnq, Pc: n, Val: 1}} {
				x := inMidst(pc)
				x.F = f
				want := copied(x)
				if pc == api.WkPrep {
					want.Pc = api.WkLeave
				}
				m, y, evs := asTold(t, two(), family(), with(map[int]uint64{9: 1}), 0, x, 0)
				become(t, "nowhere", m, with(map[int]uint64{9: 1}), y, want, evs, nil)
			}
		}
	}
}

func TestExample(t *testing.T) { // the chapter's: four steps of its pop, one to seek, two at the injector, then it prepares to wait
	c := api.Conf{W: 1, D: 2, I: 2}
	m, x := make(api.Mem, 15), work.New(0)
	var pcs []int
	for range 12 {
		pcs = append(pcs, x.Pc)
		m, x, _ = asTold(t, c, nil, m, 0, x, 0)
	}
	if want := []int{0, 0, 0, 0, 1, 2, 2, 5, 6, 7, 7, 7}; !slices.Equal(pcs, want) {
		t.Errorf("it is at %v", pcs)
	}
}
