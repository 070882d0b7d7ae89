package word_test

import (
	"math"
	"math/big"
	"testing"

	"poacher/word"
)

const (
	top      = math.MaxUint64
	epochs   = 1 << 48
	topEpoch = epochs - 1
	masks    = 1 << 16
	topMask  = masks - 1
)

// numbers are those around 0, 2^16, 2^32, 2^48, 2^63 and 2^64, where a narrower, a wider or a signed kind would go wrong.
func numbers() []uint64 {
	return []uint64{
		0, 1, 2, 3, 5, 6,
		masks/2 - 1, masks / 2, topMask - 1, topMask, masks, masks + 1, masks + 8,
		1<<31 - 1, 1 << 31, 1<<32 - 1, 1 << 32, 1<<32 + 1,
		1<<47 - 1, 1 << 47, topEpoch - 1, topEpoch, epochs, epochs + 1, epochs + 2,
		1<<62 - 1, 1 << 62, 1<<63 - 1, 1 << 63, 1<<63 + 1,
		0xaaaaaaaaaaaaaaaa, 0x5555555555555555, 0x0123456789abcdef,
		top - masks, top - topMask, top - 1, top,
	}
}

// places are the bits of a mask, and those that it has not.
func places() []int {
	out := []int{math.MinInt, math.MinInt + 1, -1 << 32, -1<<32 + 3, math.MinInt32, -65, -64, -63, -17, -16, -15, -2}
	for w := -1; w <= 66; w++ {
		out = append(out, w)
	}
	return append(out, 255, 256, 257, 1<<16, math.MaxInt32, 1<<32, 1<<32+1, 1<<62, math.MaxInt-1, math.MaxInt)
}

// packed is a word made in numbers that do not wrap around by themselves.
func packed(epoch, mask uint64) uint64 {
	e := new(big.Int).Mod(new(big.Int).SetUint64(epoch), big.NewInt(epochs))
	e.Mul(e, big.NewInt(masks))
	return e.Add(e, new(big.Int).SetUint64(mask%masks)).Uint64()
}

// digits are the lowest 16 bits of a number, the lowest one ahead.
func digits(n uint64) [16]bool {
	var out [16]bool
	for w := range out {
		out[w] = n%2 == 1
		n /= 2
	}
	return out
}

// sum is the number of which digits tells the bits.
func sum(bits [16]bool) uint64 {
	var out uint64
	for w := 15; w >= 0; w-- {
		out *= 2
		if bits[w] {
			out++
		}
	}
	return out
}

func first(bits [16]bool) int {
	for w, set := range bits {
		if set {
			return w
		}
	}
	return -1
}

func TestPack(t *testing.T) { // P2.1
	for _, x := range []struct{ epoch, mask, want uint64 }{
		{3, 5, 196613}, {0, 0, 0}, {0, 1, 1}, {1, 0, 65536}, {1, 1, 65537}, {10, 77, 655437},
		{0, topMask, topMask}, {topEpoch, 0, top - topMask}, {topEpoch, topMask, top}, {1 << 47, 0, 1 << 63},
		{epochs, 0, 0}, {0, masks, 0}, {epochs, masks, 0}, {epochs + 2, masks + 1, 131073},
		{1 << 63, 1 << 63, 0}, {top, top, top}, {0, top, topMask}, {top, 0, top - topMask},
	} {
		if got := word.Pack(x.epoch, x.mask); got != x.want {
			t.Errorf("Pack(%d, %d) = %d, want %d", x.epoch, x.mask, got, x.want)
		}
	}
}

func TestPackEverywhere(t *testing.T) { // P2.1, R1, R7
	for _, epoch := range numbers() {
		for _, mask := range numbers() {
			if got, want := word.Pack(epoch, mask), packed(epoch, mask); got != want {
				t.Errorf("Pack(%d, %d) = %d, want %d", epoch, mask, got, want)
			}
		}
	}
}

func TestEpochAndMask(t *testing.T) { // P2.1
	for _, x := range []struct{ e, epoch, mask uint64 }{
		{196613, 3, 5}, {0, 0, 0}, {1, 0, 1}, {topMask, 0, topMask}, {masks, 1, 0}, {masks + 1, 1, 1},
		{epochs, 1 << 32, 0}, {1 << 63, 1 << 47, 0}, {1<<63 - 1, 1<<47 - 1, topMask},
		{top, topEpoch, topMask}, {top - topMask, topEpoch, 0},
	} {
		if epoch, mask := word.Epoch(x.e), word.Mask(x.e); epoch != x.epoch || mask != x.mask {
			t.Errorf("%d: epoch %d, mask %d, want %d, %d", x.e, epoch, mask, x.epoch, x.mask)
		}
	}
	for _, e := range numbers() {
		if epoch, mask := word.Epoch(e), word.Mask(e); epoch != e/masks || mask != e%masks {
			t.Errorf("%d: epoch %d, mask %d, want %d, %d", e, epoch, mask, e/masks, e%masks)
		}
	}
}

func TestSet(t *testing.T) { // P2.1
	for _, x := range []struct {
		e    uint64
		w    int
		want uint64
	}{
		{196613, 1, 196615}, {196613, 0, 196613}, {196613, 2, 196613}, {196613, 15, 229381},
		{0, 0, 1}, {0, 14, 16384}, {0, 15, 32768}, {0, 16, 0}, {0, 17, 0}, {0, 63, 0}, {0, 64, 0}, {0, -1, 0},
		{7, -1, 7}, {7, 16, 7}, {7, 64, 7}, {7, math.MaxInt, 7}, {7, math.MinInt, 7}, {7, 1<<32 + 3, 7},
		{top, 3, top}, {top, 16, top}, {top - topMask, 7, top - topMask + 128},
	} {
		if got := word.Set(x.e, x.w); got != x.want {
			t.Errorf("Set(%d, %d) = %d, want %d", x.e, x.w, got, x.want)
		}
	}
}

func TestSetEverywhere(t *testing.T) { // P2.1, R1, R4
	for _, e := range numbers() {
		for _, w := range places() {
			bits := digits(e)
			if 0 <= w && w <= 15 {
				bits[w] = true
			}
			if got, want := word.Set(e, w), packed(e/masks, sum(bits)); got != want {
				t.Errorf("Set(%d, %d) = %d, want %d", e, w, got, want)
			}
		}
	}
}

func TestLowest(t *testing.T) { // P2.2
	for mask, want := range map[uint64]int{
		0: -1, 1: 0, 2: 1, 3: 0, 5: 0, 6: 1, 16384: 14, 32768: 15, 49152: 14, topMask: 0,
		masks: -1, masks + 8: 3, 1 << 17: -1, 1 << 48: -1, 1 << 63: -1, 1<<63 + 32768: 15,
		top: 0, top - topMask: -1, top - 1: 1,
	} {
		if got := word.Lowest(mask); got != want {
			t.Errorf("Lowest(%d) = %d, want %d", mask, got, want)
		}
	}
}

func TestLowestOfAllMasks(t *testing.T) { // P2.2, R1: bits beyond the lowest 16 tell nothing
	for mask := range uint64(masks) {
		want := first(digits(mask))
		for _, beyond := range []uint64{0, 1, 1 << 47, topEpoch} {
			if got := word.Lowest(beyond*masks + mask); got != want {
				t.Fatalf("Lowest(%d) = %d, want %d", beyond*masks+mask, got, want)
			}
		}
	}
}

func TestBump(t *testing.T) { // P2.2
	for _, x := range []struct {
		e, want uint64
		w       int
	}{
		{196613, 4*masks + 4, 0}, {3*masks + 6, 4*masks + 4, 1}, {3*masks + 4, 4 * masks, 2},
		{3 * masks, 4 * masks, -1}, {0, masks, -1}, {1, masks, 0}, {32768, masks, 15}, {topMask, masks + topMask - 1, 0},
		{top, topMask - 1, 0}, {top - topMask, 0, -1}, {top - topMask + 32768, 0, 15},
		{top - topMask - masks, top - topMask, -1}, {1<<63 - 1, 1<<63 + topMask - 1, 0},
	} {
		if got, w := word.Bump(x.e); got != x.want || w != x.w {
			t.Errorf("Bump(%d) = %d, %d, want %d, %d", x.e, got, w, x.want, x.w)
		}
	}
}

func TestBumpOfAllMasks(t *testing.T) { // P2.2, R1, R7
	for mask := range uint64(masks) {
		bits := digits(mask)
		low := first(bits)
		if low >= 0 {
			bits[low] = false
		}
		for _, epoch := range []uint64{0, 3, 1<<47 - 1, topEpoch - 1, topEpoch} {
			e, want := packed(epoch, mask), packed(epoch+1, sum(bits))
			if got, w := word.Bump(e); got != want || w != low {
				t.Fatalf("Bump(%d) = %d, %d, want %d, %d", e, got, w, want, low)
			}
		}
	}
}

func TestWipe(t *testing.T) { // P2.2
	for e, want := range map[uint64]uint64{
		196613: 4 * masks, 0: masks, 1: masks, topMask: masks, masks: 2 * masks, 9*masks + 77: 10 * masks,
		1<<63 - 1: 1 << 63, top: 0, top - topMask: 0, top - masks: top - topMask,
	} {
		if got := word.Wipe(e); got != want {
			t.Errorf("Wipe(%d) = %d, want %d", e, got, want)
		}
	}
	for _, e := range numbers() {
		if got, want := word.Wipe(e), packed(e/masks+1, 0); got != want {
			t.Errorf("Wipe(%d) = %d, want %d", e, got, want)
		}
	}
}

func TestFar(t *testing.T) { // P2.3
	for _, x := range []struct {
		a, b uint64
		want int
	}{
		{5, 3, 2}, {3, 5, -2}, {7, 7, 0}, {0, 0, 0}, {top, top, 0}, {1 << 63, 1 << 63, 0},
		{0, top, 1}, {top, 0, -1}, {1, top - 1, 3}, {top - 1, 1, -3},
		{1<<63 - 1, 0, math.MaxInt64}, {1 << 63, 0, math.MinInt64}, {1<<63 + 1, 0, math.MinInt64 + 1},
		{0, 1 << 63, math.MinInt64}, {0, 1<<63 - 1, math.MinInt64 + 1}, {0, 1<<63 + 1, math.MaxInt64},
		{5, 1<<63 + 5, math.MinInt64}, {1<<63 + 5, 5, math.MinInt64}, {1<<63 - 1, top, math.MinInt64},
		{1 << 63, 1<<63 - 1, 1}, {1<<63 - 1, 1 << 63, -1}, {1 << 32, 0, 1 << 32}, {0, 1 << 32, -1 << 32},
	} {
		if got := word.Far(x.a, x.b); got != x.want {
			t.Errorf("Far(%d, %d) = %d, want %d", x.a, x.b, got, x.want)
		}
	}
}

// apart is a less b, brought between -2^63 and 2^63 less 1 by hand.
func apart(a, b uint64) *big.Int {
	half, whole := new(big.Int).Lsh(big.NewInt(1), 63), new(big.Int).Lsh(big.NewInt(1), 64)
	d := new(big.Int).Sub(new(big.Int).SetUint64(a), new(big.Int).SetUint64(b))
	d.Add(d, half)
	d.Mod(d, whole)
	return d.Sub(d, half)
}

func TestFarEverywhere(t *testing.T) { // P2.3, R1, R7
	for _, a := range numbers() {
		for _, b := range numbers() {
			if got, want := word.Far(a, b), apart(a, b); big.NewInt(int64(got)).Cmp(want) != 0 {
				t.Errorf("Far(%d, %d) = %d, want %d", a, b, got, want)
			}
		}
	}
}

func TestExample(t *testing.T) { // the chapter's example
	e := word.Pack(3, 5)
	next, w := word.Bump(e)
	if e != 196613 || word.Epoch(next) != 4 || word.Mask(next) != 4 || w != 0 {
		t.Errorf("Pack(3, 5) = %d; bumped: epoch %d, mask %d, and %d", e, word.Epoch(next), word.Mask(next), w)
	}
}
