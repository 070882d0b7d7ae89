package draw_test

import (
	"math"
	"math/big"
	"slices"
	"testing"

	"poacher/api"
	"poacher/draw"
)

// far are numbers that nobody has; narrower kinds would take some of them for small ones.
func far() []int {
	return []int{
		math.MinInt, math.MinInt + 1, -1 << 62, math.MinInt32, -1 << 32, -1<<32 + 1, -256, -255, -21, -20, -4, -3, -2, -1,
		256 * 3, 1 << 16, 1<<16 + 1, math.MaxInt32, 1 << 32, 1<<32 + 1, 1<<32 + 2, 1 << 62, math.MaxInt - 1, math.MaxInt,
	}
}

func work(who int) api.Pick { return api.Pick{Kind: api.PkWork, Who: who} }

func sub(who int) api.Pick { return api.Pick{Kind: api.PkSub, Who: who} }

// idle are picks of nobody, though their Who is somebody's.
func idle() []api.Pick {
	out := []api.Pick{{Kind: api.PkClose}, {Kind: api.PkNone}, {Kind: api.PkClose, Who: 1}, {Kind: api.PkNone, Who: 1}}
	for _, kind := range append(far(), 4, 5, 8) {
		out = append(out, api.Pick{Kind: kind}, api.Pick{Kind: kind, Who: 1})
	}
	for _, who := range append(far(), 20, 21) {
		out = append(out, work(who), sub(who))
	}
	return out
}

func TestDecode(t *testing.T) { // P5.1
	for _, x := range []struct {
		b    []byte
		want []api.Pick
	}{
		{nil, nil}, {[]byte{}, nil}, {[]byte{1}, nil}, {[]byte{1, 2}, nil},
		{[]byte{1, 2, 3}, []api.Pick{{Kind: api.PkSub, Who: 2, Draw: 3}}},
		{[]byte{1, 2, 3, 0}, []api.Pick{{Kind: api.PkSub, Who: 2, Draw: 3}}},
		{[]byte{1, 2, 3, 0, 9}, []api.Pick{{Kind: api.PkSub, Who: 2, Draw: 3}}},
		{[]byte{1, 2, 3, 0, 9, 8}, []api.Pick{{Kind: api.PkSub, Who: 2, Draw: 3}, {Kind: api.PkWork, Who: 9, Draw: 8}}},
		{[]byte{0, 0, 0, 0, 0, 0}, []api.Pick{{}, {}}},
		{[]byte{255, 255, 255}, []api.Pick{{Kind: api.PkNone, Who: 255, Draw: 255}}},
		{[]byte{2, 7, 128, 3, 128, 7, 6, 0, 1}, []api.Pick{{Kind: api.PkClose, Who: 7, Draw: 128}, {Kind: api.PkNone, Who: 128, Draw: 7}, {Kind: api.PkClose, Draw: 1}}},
	} {
		if got := draw.Decode(x.b); !slices.Equal(got, x.want) {
			t.Errorf("Decode(%v) = %v, want %v", x.b, got, x.want)
		}
	}
}

func TestDecodeOfEachByte(t *testing.T) { // P5.1: first, second and third bytes from 0 to 255
	for n := range 256 {
		b := byte(n)
		want := []api.Pick{{Kind: n % 4, Who: 255 - n, Draw: 77}, {Kind: 2, Who: n, Draw: uint64(255 - n)}, {Kind: 1, Who: 5, Draw: uint64(n)}}
		if got := draw.Decode([]byte{b, 255 - b, 77, 2, b, 255 - b, 1, 5, b}); !slices.Equal(got, want) {
			t.Errorf("byte %d: %v, want %v", n, got, want)
		}
	}
}

func TestDecodeOfEachLength(t *testing.T) { // P5.1: what is left behind counts for nothing
	var b []byte
	var all []api.Pick
	for n := range 1000 {
		if got := draw.Decode(b); !slices.Equal(got, all[:n/3]) {
			t.Fatalf("of %d bytes: %d picks, want %d", n, len(got), n/3)
		}
		next := byte(n * n % 251)
		b = append(b, next)
		switch n % 3 {
		case 0:
			all = append(all, api.Pick{Kind: int(next) % 4})
		case 1:
			all[n/3].Who = int(next)
		case 2:
			all[n/3].Draw = uint64(next)
		}
	}
}

func TestDecodeOfMany(t *testing.T) { // P5.1
	b := slices.Repeat([]byte{5, 200, 9}, 1<<19)
	got := draw.Decode(append(b, 1, 1))
	if !slices.Equal(got, slices.Repeat([]api.Pick{{Kind: api.PkSub, Who: 200, Draw: 9}}, 1<<19)) {
		t.Errorf("of %d bytes: %d picks", len(b)+2, len(got))
	}
}

func TestFits(t *testing.T) { // P5.2
	ends := []int{math.MinInt, -1, 0, 1, 2, 3, 8, 20, 21, 300, math.MaxInt - 1, math.MaxInt}
	for _, w := range ends {
		for _, s := range ends {
			whos := append(far(), 0, 1, 2, 3, 7, 20, 21)
			whos = append(whos, w-1, w, w+1, s-1, s, s+1)
			for _, who := range whos {
				want := []bool{who >= 0 && who < w, who >= 0 && who < s, true, true}
				for kind := range 4 {
					for _, d := range []uint64{0, 1, math.MaxUint64} {
						p := api.Pick{Kind: kind, Who: who, Draw: d}
						if got := draw.Fits(p, w, s); got != want[kind] {
							t.Fatalf("Fits(%v, %d, %d) is %v", p, w, s, got)
						}
					}
				}
			}
		}
	}
}

func TestFitsByHand(t *testing.T) { // P5.2: written out
	for _, x := range []struct {
		p    api.Pick
		w, s int
		want bool
	}{
		{work(0), 1, 0, true}, {work(1), 1, 5, false}, {work(4), 5, 1, true}, {work(5), 5, 9, false}, {work(-1), 5, 5, false},
		{work(0), 0, 1, false}, {sub(0), 1, 0, false}, {sub(0), 0, 1, true}, {sub(1), 5, 1, false}, {sub(4), 1, 5, true}, {sub(-1), 5, 5, false},
		{work(0), -1, 1, false}, {sub(0), 1, -1, false}, {work(-2), -1, -1, false}, {sub(-2), -1, -1, false},
		{api.Pick{Kind: api.PkClose}, 0, 0, true}, {api.Pick{Kind: api.PkNone}, 0, 0, true},
		{api.Pick{Kind: api.PkClose, Who: math.MinInt}, -1, -1, true}, {api.Pick{Kind: api.PkNone, Who: math.MaxInt}, -1, -1, true},
		{work(math.MaxInt), math.MaxInt, 0, false}, {work(math.MaxInt - 1), math.MaxInt, 0, true},
		{sub(math.MaxInt), 0, math.MaxInt, false}, {sub(math.MaxInt - 1), 0, math.MaxInt, true},
	} {
		if got := draw.Fits(x.p, x.w, x.s); got != x.want {
			t.Errorf("Fits(%v, %d, %d) is %v", x.p, x.w, x.s, got)
		}
	}
}

func TestNoSuchKindFits(t *testing.T) { // P5.2, R1
	for _, kind := range append(far(), 4, 5, 6, 7, 8, 256, 257, 258, 259) {
		for _, who := range append(far(), 0, 1, 2) {
			for _, n := range []int{-1, 0, 1, 3, math.MaxInt} {
				if p := (api.Pick{Kind: kind, Who: who}); draw.Fits(p, n, n) {
					t.Fatalf("Fits(%v, %d, %d) is true", p, n, n)
				}
			}
		}
	}
}

func TestRound(t *testing.T) { // P5.2: from 0 to 20 of each
	for w := range 21 {
		for s := range 21 {
			for _, d := range []uint64{0, 7, 1 << 63, math.MaxUint64} {
				var want []api.Pick
				for i := range w + s {
					if i < w {
						want = append(want, api.Pick{Kind: 0, Who: i, Draw: d})
					} else {
						want = append(want, api.Pick{Kind: 1, Who: i - w, Draw: d})
					}
				}
				if got := draw.Round(w, s, d); !slices.Equal(got, want) {
					t.Fatalf("Round(%d, %d, %d) = %v, want %v", w, s, d, got, want)
				}
			}
		}
	}
}

func TestRoundByHand(t *testing.T) { // P5.2: written out
	const most = math.MaxUint64
	want := []api.Pick{{Kind: api.PkWork, Who: 0, Draw: most}, {Kind: api.PkWork, Who: 1, Draw: most}, {Kind: api.PkSub, Who: 0, Draw: most}, {Kind: api.PkSub, Who: 1, Draw: most}, {Kind: api.PkSub, Who: 2, Draw: most}}
	if got := draw.Round(2, 3, most); !slices.Equal(got, want) {
		t.Errorf("Round(2, 3, %d) = %v, want %v", uint64(most), got, want)
	}
}

func TestNoSuchRound(t *testing.T) { // P5.2, R1: fewer than none, or more than 20
	for _, wrong := range append(far(), 21, 22, 40, 256) {
		for _, right := range []int{0, 1, 2, 20} {
			if got := draw.Round(wrong, right, 3); len(got) != 0 {
				t.Errorf("Round(%d, %d, 3) = %v", wrong, right, got)
			}
			if got := draw.Round(right, wrong, 3); len(got) != 0 {
				t.Errorf("Round(%d, %d, 3) = %v", right, wrong, got)
			}
		}
		for _, other := range append(far(), 21) { // two that are wrong, whose sum may be right
			if got := draw.Round(wrong, other, 3); len(got) != 0 {
				t.Errorf("Round(%d, %d, 3) = %v", wrong, other, got)
			}
		}
	}
}

// victim is told by numbers that have no ends.
func victim(d uint64, self, w int) int {
	all := big.NewInt(int64(w))
	sum := new(big.Int).SetUint64(d)
	sum.Mod(sum, new(big.Int).Sub(all, big.NewInt(1)))
	sum.Add(sum, big.NewInt(int64(self)))
	sum.Add(sum, big.NewInt(1))
	return int(sum.Mod(sum, all).Int64())
}

// draws are some of w workers: small ones, as many more as there are others, and those at the ends of the numbers.
func draws(w int) []uint64 {
	others := uint64(w - 1)
	out := []uint64{0, 1, 2, 3, 4, 5, 6, 7, 254, 255, math.MaxInt - 1, math.MaxInt, 1 << 63, 1<<63 + 1, math.MaxUint64 - 1, math.MaxUint64}
	for _, d := range []uint64{0, 1, 5} {
		out = append(out, others-1-d, others+d, others*2+d, others*3-1-d)
	}
	return out
}

func TestVictim(t *testing.T) { // P5.3
	for w := 2; w <= 40; w++ {
		for self := range w {
			for _, d := range draws(w) {
				if got, want := draw.Victim(d, self, w), victim(d, self, w); got != want {
					t.Fatalf("Victim(%d, %d, %d) = %d, want %d", d, self, w, got, want)
				}
			}
		}
	}
}

func TestVictimByHand(t *testing.T) { // P5.3: written out
	for _, x := range []struct {
		d             uint64
		self, w, want int
	}{
		{0, 0, 2, 1}, {1, 0, 2, 1}, {math.MaxUint64, 0, 2, 1}, {0, 1, 2, 0}, {9, 1, 2, 0},
		{0, 0, 3, 1}, {1, 0, 3, 2}, {2, 0, 3, 1}, {3, 0, 3, 2}, {0, 1, 3, 2}, {1, 1, 3, 0}, {0, 2, 3, 0}, {1, 2, 3, 1},
		{6, 0, 8, 7}, {7, 0, 8, 1}, {8, 0, 8, 2}, {6, 7, 8, 6}, {7, 7, 8, 0}, {255, 3, 8, 7}, // 255 modulo 7 is 3
		{math.MaxUint64, 3, 8, 5}, // 2^64 less 1 modulo 7 is 1
		{math.MaxUint64, 0, 17, 0 + 1 + 15},
	} {
		if got := draw.Victim(x.d, x.self, x.w); got != x.want {
			t.Errorf("Victim(%d, %d, %d) = %d, want %d", x.d, x.self, x.w, got, x.want)
		}
	}
}

func TestVictimAtTheEndsOfNumbers(t *testing.T) { // P5.3, R7: the sum lies beyond the largest int
	for _, w := range []int{math.MaxInt, math.MaxInt - 1, math.MaxInt - 2, 1<<62 + 3, 1 << 62, 1<<62 - 1, 1<<32 + 1, 1 << 32, math.MaxInt32, 1 << 16} {
		for _, self := range []int{0, 1, 2, w / 2, w/2 + 1, w - 3, w - 2, w - 1} {
			for _, d := range append(draws(w), uint64(w/2), uint64(w)-uint64(self)) {
				got := draw.Victim(d, self, w)
				if want := victim(d, self, w); got != want || got == self || got < 0 || got >= w {
					t.Fatalf("Victim(%d, %d, %d) = %d, want %d", d, self, w, got, want)
				}
			}
		}
	}
	for _, x := range []struct {
		d          uint64
		self, want int
	}{{0, math.MaxInt - 1, 0}, {1, math.MaxInt - 1, 1}, {math.MaxInt - 2, math.MaxInt - 1, math.MaxInt - 2}, {2, math.MaxInt - 2, 1}, {math.MaxInt - 1, 0, 1}} {
		if got := draw.Victim(x.d, x.self, math.MaxInt); got != x.want {
			t.Errorf("Victim(%d, %d, %d) = %d, want %d", x.d, x.self, math.MaxInt, got, x.want)
		}
	}
}

func TestNoVictim(t *testing.T) { // P5.3, R1
	for _, d := range []uint64{0, 1, 2, 255, 1 << 63, math.MaxUint64} {
		for _, w := range []int{math.MinInt, math.MinInt + 1, -1 << 32, -3, -2, -1, 0, 1} { // too few
			for _, self := range append(far(), 0, 1, w-1, w, w+1) {
				if got := draw.Victim(d, self, w); got != -1 {
					t.Fatalf("Victim(%d, %d, %d) = %d", d, self, w, got)
				}
			}
		}
		for _, w := range []int{2, 3, 4, 8, 20, 21, 255, 1 << 32, math.MaxInt - 1, math.MaxInt} { // no such one who seeks
			for _, self := range []int{math.MinInt, math.MinInt + 1, -1 << 32, -w - 1, -w, -w + 1, -2, -1, w, w + 1, math.MaxInt} {
				if got := draw.Victim(d, self, w); got != -1 {
					t.Fatalf("Victim(%d, %d, %d) = %d", d, self, w, got)
				}
			}
		}
	}
}

func TestExample(t *testing.T) { // the chapter's example
	if a, b := draw.Victim(0, 2, 3), draw.Victim(1, 2, 3); a != 0 || b != 1 {
		t.Errorf("of three workers, draw 0 of worker 2 is %d; draw 1 is %d", a, b)
	}
}
