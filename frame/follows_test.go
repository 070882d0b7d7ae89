package frame_test

import (
	"slices"
	"testing"

	"poacher/api"
	"poacher/frame"
)

// laid are numbers, each of them put behind what l has, by calls of op.
func laid(t *testing.T, l []uint64, room, op int, numbers []uint64) []uint64 {
	t.Helper()
	for _, n := range numbers {
		var f api.Frame
		if l, f = frame.Once(l, room, frame.Begin(op, 2, n)); f.Res != api.ResOk || f.Val != n {
			t.Fatalf("%d is not laid: %+v", n, f)
		}
	}
	return l
}

// taken are the numbers that many calls of op take off l, and what is left of it.
func taken(t *testing.T, l []uint64, op, many int) (out, left []uint64) {
	t.Helper()
	for range many {
		var f api.Frame
		if l, f = frame.Once(l, 0, frame.Begin(op, 2, 77)); f.Res != api.ResOk {
			t.Fatalf("nothing is taken: %+v", f)
		}
		out = append(out, f.Val)
	}
	return out, l
}

func backward(l []uint64) []uint64 {
	out := slices.Clone(l)
	slices.Reverse(out)
	return out
}

func TestPushedIsPopped(t *testing.T) { // P6.3: in the other order, and what was there stays
	for _, first := range lists() {
		for _, numbers := range lists() {
			room := len(first) + len(numbers)
			l := laid(t, first, room, api.OpPush, numbers)
			out, left := taken(t, l, api.OpPop, len(numbers))
			if !slices.Equal(out, backward(numbers)) || !slices.Equal(left, first) {
				t.Fatalf("%v pushed behind %v: %v are popped, %v are left", numbers, first, out, left)
			}
		}
	}
}

func TestPutInIsTakenOut(t *testing.T) { // P6.3: in order, behind what was there
	for _, in := range []int{api.OpEnq, api.OpPush} {
		for _, off := range []int{api.OpDeq, api.OpSteal} {
			for _, first := range lists() {
				for _, numbers := range lists() {
					room := len(first) + len(numbers)
					l := laid(t, first, room, in, numbers)
					out, left := taken(t, l, off, room)
					if !slices.Equal(out, slices.Concat(first, numbers)) || len(left) != 0 {
						t.Fatalf("%v laid behind %v: %v are taken out, %v are left", numbers, first, out, left)
					}
				}
			}
		}
	}
}

func TestInAndOutInAnyOrder(t *testing.T) { // P6.3: what is taken is a piece of what was put in, and none is lost where there is no room
	const room = 3
	for order := range 1 << 10 {
		var l, in, out []uint64
		for turn := range 10 {
			n := uint64(turn) + 1
			var f api.Frame
			if order>>turn&1 == 0 {
				if l, f = frame.Once(l, room, frame.Begin(api.OpEnq, 0, n)); f.Res == api.ResOk {
					in = append(in, n)
				}
			} else if l, f = frame.Once(l, room, frame.Begin(api.OpDeq, 1, 0)); f.Res == api.ResOk {
				out = append(out, f.Val)
			}
			if len(l) > room || !slices.Equal(slices.Concat(out, l), in) {
				t.Fatalf("order %b, turn %d: %v were put in, %v are out, %v are there", order, turn, in, out, l)
			}
		}
	}
}

func TestEachCallAtAListIsOverAtOnce(t *testing.T) { // P6.2: and once more changes nothing
	for _, l := range lists() {
		for _, room := range rooms(l) {
			for _, op := range listOps() {
				one, f := frame.Once(l, room, full(op, api.ResNone))
				if !frame.Over(f) {
					t.Fatalf("Once(%v, %d, ..) of Op %d is not over: %+v", l, room, op, f)
				}
				if two, g := frame.Once(one, room, f); !slices.Equal(one, two) || f != g {
					t.Fatalf("%v, %+v; once more: %v, %+v", one, f, two, g)
				}
			}
		}
	}
}

// calls are one of each kind: of each Op, at hand and over.
func calls() []api.Frame {
	var out []api.Frame
	for _, op := range someOps() {
		out = append(out, frame.Begin(op, 3, 77), full(op, api.ResNone), full(op, api.ResOk), full(op, -1))
	}
	return out
}

func TestHandedInStays(t *testing.T) { // R3: also what lies behind the end
	for _, l := range lists() {
		whole := slices.Clone(l[:cap(l)])
		for _, room := range rooms(l) {
			for _, f := range calls() {
				frame.Once(l, room, f)
				if !slices.Equal(l[:cap(l)], whole) {
					t.Fatalf("room %d, %+v: %v is now %v", room, f, whole, l[:cap(l)])
				}
			}
		}
	}
}

func TestAnswerIsTheCallersOwn(t *testing.T) { // R3: neither changes the other, not behind its end either
	const mine, other = 4321, 1234
	for _, first := range lists() {
		for _, behind := range []int{0, 1, 5} {
			for _, room := range rooms(first) {
				for _, f := range calls() {
					l := append(make([]uint64, 0, len(first)+behind), first...)
					out, _ := frame.Once(l, room, f)
					want := slices.Clone(out)
					all := l[:cap(l)]
					for i := range all {
						all[i] = other
					}
					if !slices.Equal(out, want) {
						t.Fatalf("room %d, %+v: what was handed in changes the answer", room, f)
					}
					for i := range out[:cap(out)] {
						out[:cap(out)][i] = mine
					}
					_ = append(out, mine)
					if slices.Contains(all, mine) {
						t.Fatalf("room %d, %+v: the answer changes what was handed in", room, f)
					}
				}
			}
		}
	}
}

func TestAnswersShareNothing(t *testing.T) { // R3, R5
	for _, l := range lists() {
		for _, room := range []int{0, len(l), len(l) + 1} {
			for _, f := range calls() {
				one, a := frame.Once(l, room, f)
				two, b := frame.Once(l, room, f)
				if !slices.Equal(one, two) || a != b {
					t.Fatalf("room %d, %+v: %v, then %v", room, f, one, two)
				}
				want := slices.Clone(two)
				clear(one[:cap(one)])
				if !slices.Equal(two, want) {
					t.Fatalf("room %d, %+v: two answers share numbers", room, f)
				}
			}
		}
	}
}

func TestNilIsAsGoodAsEmpty(t *testing.T) { // R6
	for _, room := range append(far(), 0, 1, 2) {
		for _, f := range calls() {
			one, a := frame.Once(nil, room, f)
			two, b := frame.Once([]uint64{}, room, f)
			if !slices.Equal(one, two) || a != b {
				t.Fatalf("room %d, %+v: %v, %+v of nil; %v, %+v of an empty list", room, f, one, a, two, b)
			}
		}
	}
}
