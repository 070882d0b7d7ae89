package frame_test

import (
	"math"
	"slices"
	"testing"

	"poacher/api"
	"poacher/frame"
)

const most = math.MaxUint64

// far are numbers that name nothing; narrower kinds would take some of them for small ones.
func far() []int {
	return []int{
		math.MinInt, math.MinInt + 1, -1 << 62, math.MinInt32, -1 << 32, -1<<32 + 1, -256, -255, -8, -4, -3, -2, -1,
		256, 257, 1 << 16, math.MaxInt32, 1 << 32, 1<<32 + 1, 1<<32 + 3, 1 << 62, math.MaxInt - 1, math.MaxInt,
	}
}

// noOps are Ops that there are none of.
func noOps() []int { return append(far(), 8, 9, 16) }

// noResults are results that there are none of.
func noResults() []int { return append(far(), 5, 6, 8) }

// idleOps do nothing at a list.
func idleOps() []int { return append(noOps(), api.OpWait, api.OpNote, api.OpAll) }

func listOps() []int { return []int{api.OpPush, api.OpPop, api.OpSteal, api.OpEnq, api.OpDeq} }

func someOps() []int { return append(listOps(), idleOps()...) }

func overs() []int {
	return append(noResults(), api.ResOk, api.ResFull, api.ResEmpty, api.ResAbort)
}

func whos() []int { return []int{0, 1, 7, 8, -1, math.MinInt, math.MaxInt} }

func vals() []uint64 { return []uint64{0, 1, 7, 1 << 32, 1 << 63, most - 1, most} }

// lists are nil, empty, short and long ones; some have room behind their ends.
func lists() [][]uint64 {
	long := make([]uint64, 100)
	for i := range long {
		long[i] = uint64(i) * 0x9e3779b97f4a7c15
	}
	return [][]uint64{
		nil, {}, make([]uint64, 0, 4), {5}, {0}, {most}, {5, 6}, {6, 5}, {0, 0}, {most, 0}, {5, 6, 5}, {1, 2, 3, 4},
		append(make([]uint64, 0, 8), 5), append(make([]uint64, 0, 8), 5, 6), []uint64{9, 8, 7, 6}[:2], []uint64{9, 8, 7, 6}[1:3], long, long[:50], long[50:],
	}
}

// rooms are those around how many numbers there are, and far ones.
func rooms(l []uint64) []int {
	n := len(l)
	return append(far(), 0, 1, 2, n-1, n, n+1, n+2)
}

// full are calls of which no field is 0, but for what is asked.
func full(op, res int) api.Frame {
	return api.Frame{Op: op, Pc: 2, Who: 3, Val: 4, X: 5, Y: 6, Res: res}
}

// once is told anew, without a table, and without package frame.
func once(l []uint64, room int, f api.Frame) ([]uint64, api.Frame) {
	over := func(res int, val uint64) api.Frame { return api.Frame{Op: f.Op, Who: f.Who, Val: val, Res: res} }
	n := len(l)
	switch {
	case f.Res != 0:
		return l, f
	case (f.Op == 0 || f.Op == 3) && n < room:
		return slices.Concat(l, []uint64{f.Val}), over(1, f.Val)
	case f.Op == 0 || f.Op == 3:
		return l, over(2, f.Val)
	case (f.Op == 1 || f.Op == 2 || f.Op == 4) && n == 0:
		return l, over(3, 0)
	case f.Op == 1:
		return l[:n-1], over(1, l[n-1])
	case f.Op == 2 || f.Op == 4:
		return l[1:], over(1, l[0])
	}
	return l, f
}

// asks that Once at l answers these.
func asks(t *testing.T, l []uint64, room int, f api.Frame, want []uint64, over api.Frame) {
	t.Helper()
	got, g := frame.Once(l, room, f)
	if !slices.Equal(got, want) || g != over {
		t.Fatalf("Once(%v, %d, %+v) = %v, %+v, want %v, %+v", l, room, f, got, g, want, over)
	}
}

func TestBegin(t *testing.T) { // P6.1: each Op, and Ops that there are none of
	for _, op := range someOps() {
		for _, who := range whos() {
			for _, val := range vals() {
				f := frame.Begin(op, who, val)
				if want := (api.Frame{Op: op, Who: who, Val: val}); f != want {
					t.Fatalf("Begin(%d, %d, %d) = %+v", op, who, val, f)
				}
				if frame.Over(f) {
					t.Fatalf("%+v has begun, and is over", f)
				}
			}
		}
	}
}

func TestOver(t *testing.T) { // P6.1
	for _, op := range someOps() {
		for _, f := range []api.Frame{{Op: op}, full(op, api.ResNone), {Op: op, Pc: -1, Who: -1, Val: most, X: most, Y: most}} {
			if frame.Over(f) {
				t.Fatalf("%+v is over", f)
			}
			for _, res := range overs() {
				f.Res = res
				if !frame.Over(f) {
					t.Fatalf("%+v is not over", f)
				}
			}
		}
	}
}

func TestEnd(t *testing.T) { // P6.1: each result, and results that there are none of
	for _, op := range someOps() {
		for _, was := range append(overs(), api.ResNone) {
			for _, res := range append(overs(), api.ResNone) {
				for _, val := range vals() {
					for _, f := range []api.Frame{full(op, was), {Op: op, Res: was}, {Op: op, Pc: math.MinInt, Who: math.MaxInt, Val: most, X: most, Y: most, Res: was}} {
						g := frame.End(f, res, val)
						if want := (api.Frame{Op: op, Who: f.Who, Val: val, Res: res}); g != want {
							t.Fatalf("End(%+v, %d, %d) = %+v", f, res, val, g)
						}
						if frame.Over(g) != (res != api.ResNone) {
							t.Fatalf("%+v: over is %v", g, frame.Over(g))
						}
					}
				}
			}
		}
	}
}

func TestEndByHand(t *testing.T) { // P6.1: written out
	f := api.Frame{Op: 6, Pc: 2, Who: 3, Val: 4, X: 5, Y: 7, Res: 4}
	if g := frame.End(f, 2, 9); g.Op != 6 || g.Who != 3 || g.Res != 2 || g.Val != 9 || g.Pc != 0 || g.X != 0 || g.Y != 0 {
		t.Errorf("%+v", g)
	}
}

func TestOnceByHand(t *testing.T) { // P6.2: written out
	two := []uint64{5, 6}
	for _, x := range []struct {
		l        []uint64
		op, room int
		want     []uint64
		res      int
		val      uint64
	}{
		{nil, api.OpPush, 1, []uint64{7}, api.ResOk, 7}, {nil, api.OpPush, 0, nil, api.ResFull, 7}, {nil, api.OpPush, -1, nil, api.ResFull, 7},
		{two, api.OpPush, 3, []uint64{5, 6, 7}, api.ResOk, 7}, {two, api.OpPush, 2, two, api.ResFull, 7}, {two, api.OpPush, 1, two, api.ResFull, 7},
		{two, api.OpPush, math.MaxInt, []uint64{5, 6, 7}, api.ResOk, 7}, {two, api.OpPush, math.MinInt, two, api.ResFull, 7},
		{nil, api.OpEnq, 1, []uint64{7}, api.ResOk, 7}, {nil, api.OpEnq, 0, nil, api.ResFull, 7}, {nil, api.OpEnq, -1, nil, api.ResFull, 7},
		{two, api.OpEnq, 3, []uint64{5, 6, 7}, api.ResOk, 7}, {two, api.OpEnq, 2, two, api.ResFull, 7}, {two, api.OpEnq, 1, two, api.ResFull, 7},
		{two, api.OpEnq, math.MaxInt, []uint64{5, 6, 7}, api.ResOk, 7}, {two, api.OpEnq, math.MinInt, two, api.ResFull, 7},
		{nil, api.OpPop, 9, nil, api.ResEmpty, 0}, {[]uint64{5}, api.OpPop, 9, nil, api.ResOk, 5}, {two, api.OpPop, 9, []uint64{5}, api.ResOk, 6},
		{two, api.OpPop, math.MinInt, []uint64{5}, api.ResOk, 6}, {[]uint64{1, 0}, api.OpPop, 0, []uint64{1}, api.ResOk, 0},
		{nil, api.OpSteal, 9, nil, api.ResEmpty, 0}, {[]uint64{5}, api.OpSteal, 9, nil, api.ResOk, 5}, {two, api.OpSteal, 9, []uint64{6}, api.ResOk, 5},
		{two, api.OpSteal, math.MinInt, []uint64{6}, api.ResOk, 5}, {[]uint64{0, 1}, api.OpSteal, 0, []uint64{1}, api.ResOk, 0},
		{nil, api.OpDeq, 9, nil, api.ResEmpty, 0}, {[]uint64{5}, api.OpDeq, 9, nil, api.ResOk, 5}, {two, api.OpDeq, 9, []uint64{6}, api.ResOk, 5},
		{two, api.OpDeq, math.MinInt, []uint64{6}, api.ResOk, 5}, {[]uint64{0, 1}, api.OpDeq, 0, []uint64{1}, api.ResOk, 0},
	} {
		f := api.Frame{Op: x.op, Pc: 1, Who: 4, Val: 7, X: 2, Y: 3}
		asks(t, x.l, x.room, f, x.want, api.Frame{Op: x.op, Who: 4, Val: x.val, Res: x.res})
	}
}

func TestOnceOfAll(t *testing.T) { // P6.2: each Op, at each list, with each room
	for _, l := range lists() {
		for _, room := range rooms(l) {
			for _, op := range someOps() {
				for _, who := range whos() {
					for _, val := range vals() {
						for _, f := range []api.Frame{{Op: op, Who: who, Val: val}, {Op: op, Pc: 9, Who: who, Val: val, X: 8, Y: most}} {
							want, over := once(l, room, f)
							asks(t, l, room, f, want, over)
						}
					}
				}
			}
		}
	}
}

func TestOnceOfOneThatIsOver(t *testing.T) { // P6.2: nothing of it changes, and nothing of the list
	for _, l := range lists() {
		for _, room := range rooms(l) {
			for _, op := range someOps() {
				for _, res := range overs() {
					f := full(op, res)
					asks(t, l, room, f, l, f)
				}
			}
		}
	}
}

func TestOnceOfOneThatIsAtNoList(t *testing.T) { // P6.2: it goes on, as it was
	for _, l := range lists() {
		for _, room := range rooms(l) {
			for _, op := range idleOps() {
				f := full(op, api.ResNone)
				asks(t, l, room, f, l, f)
			}
		}
	}
}

func TestOnceOfMany(t *testing.T) { // P6.2
	l := make([]uint64, 1<<20)
	for i := range l {
		l[i] = uint64(i) + 1
	}
	n := len(l)
	for _, op := range listOps() {
		for _, room := range []int{n - 1, n, n + 1} {
			f := full(op, api.ResNone)
			want, over := once(l, room, f)
			if got, g := frame.Once(l, room, f); !slices.Equal(got, want) || g != over {
				t.Errorf("Op %d, room %d at %d numbers: %d are left, %+v", op, room, n, len(got), g)
			}
		}
	}
}

func TestExample(t *testing.T) { // the chapter's example
	l, f := frame.Once([]uint64{5}, 2, frame.Begin(api.OpPush, 0, 7))
	if !slices.Equal(l, []uint64{5, 7}) || f.Res != api.ResOk || f.Val != 7 {
		t.Errorf("a push of 7: %v, %+v", l, f)
	}
	l, f = frame.Once(l, 2, frame.Begin(api.OpPush, 0, 7))
	if !slices.Equal(l, []uint64{5, 7}) || f.Res != api.ResFull || f.Val != 7 {
		t.Errorf("once more: %v, %+v", l, f)
	}
}
