package cell_test

import (
	"math"
	"math/big"
	"slices"
	"testing"

	"poacher/api"
	"poacher/cell"
)

const top = math.MaxUint64

// numbers are those around 0, 2^32, 2^63 and 2^64, where a narrower or a signed kind would go wrong.
func numbers() []uint64 {
	return []uint64{0, 1, 2, 5, 1<<32 - 1, 1 << 32, 1<<63 - 1, 1 << 63, 1<<63 + 1, top - 1, top}
}

// memories are none, one, and several cells; the last but one has room behind its end that is not of it.
func memories() []api.Mem {
	return []api.Mem{
		nil,
		{},
		{0},
		{top},
		{5, 7},
		{0, 1 << 63, top, 1, top},
		append(make(api.Mem, 0, 9), 3, 4, 3),
		make(api.Mem, api.MaxMem),
	}
}

// places are all of m, and those where there is no cell.
func places(m api.Mem) []int {
	out := []int{math.MinInt, math.MinInt32, -2, -1}
	for i := range len(m) + 2 {
		out = append(out, i)
	}
	return append(out, cap(m), math.MaxInt32, 1<<32, 1<<62, math.MaxInt)
}

func there(m api.Mem, i int) bool { return 0 <= i && i < len(m) }

// with is m with v at i, made without package cell.
func with(m api.Mem, i int, v uint64) api.Mem {
	var out api.Mem
	for at, n := range m {
		if at == i {
			n = v
		}
		out = append(out, n)
	}
	return out
}

// sum is a and b modulo 2^64, in numbers that do not wrap around by themselves.
func sum(a, b uint64) uint64 {
	s := new(big.Int).Add(new(big.Int).SetUint64(a), new(big.Int).SetUint64(b))
	return s.Mod(s, new(big.Int).Lsh(big.NewInt(1), 64)).Uint64()
}

func TestLoad(t *testing.T) { // P1.1
	for _, x := range []struct {
		m    api.Mem
		i    int
		want uint64
	}{
		{api.Mem{5, 7}, 0, 5}, {api.Mem{5, 7}, 1, 7}, {api.Mem{5, 7}, 2, 0}, {api.Mem{5, 7}, -1, 0},
		{api.Mem{top, 1 << 63}, 0, top}, {api.Mem{top, 1 << 63}, 1, 1 << 63},
		{nil, 0, 0}, {nil, -1, 0}, {api.Mem{}, 0, 0}, {api.Mem{}, 1, 0},
		{api.Mem{5, 7}, math.MaxInt, 0}, {api.Mem{5, 7}, math.MinInt, 0}, {api.Mem{5, 7}, 1 << 32, 0},
		{api.Mem{5, 7, 9}[:2], 2, 0}, // what lies behind the end is no cell
	} {
		if got := cell.Load(x.m, x.i); got != x.want {
			t.Errorf("Load(%v, %d) = %d, want %d", x.m, x.i, got, x.want)
		}
	}
}

func TestLoadEverywhere(t *testing.T) { // P1.1, R1
	for _, m := range memories() {
		for _, i := range places(m) {
			var want uint64
			if there(m, i) {
				want = m[i]
			}
			if got := cell.Load(m, i); got != want {
				t.Errorf("Load(%v, %d) = %d, want %d", m, i, got, want)
			}
		}
	}
}

func TestSame(t *testing.T) { // P1.1, R6
	for _, x := range []struct {
		a, b api.Mem
		want bool
	}{
		{nil, nil, true}, {nil, api.Mem{}, true}, {api.Mem{}, api.Mem{}, true},
		{nil, api.Mem{0}, false}, {api.Mem{}, api.Mem{0}, false},
		{api.Mem{5, 7}, api.Mem{5, 7}, true},
		{api.Mem{5, 7}, api.Mem{7, 5}, false},
		{api.Mem{5, 7}, api.Mem{6, 7}, false},
		{api.Mem{5, 7}, api.Mem{5, 8}, false},
		{api.Mem{5, 7, 9}, api.Mem{5, 8, 9}, false},
		{api.Mem{5, 7}, api.Mem{5, 7, 0}, false},
		{api.Mem{5, 7}, api.Mem{5}, false},
		{api.Mem{0}, api.Mem{0, 0}, false},
		{api.Mem{0}, api.Mem{top}, false},
		{api.Mem{0}, api.Mem{1 << 32}, false},
		{api.Mem{0}, api.Mem{1 << 63}, false},
		{api.Mem{top, 1 << 63}, api.Mem{top, 1 << 63}, true},
		{append(make(api.Mem, 0, 8), 5), api.Mem{5}, true},
		{api.Mem{5, 7}[:1], api.Mem{5, 8}[:1], true},
	} {
		if got := cell.Same(x.a, x.b); got != x.want {
			t.Errorf("Same(%v, %v) = %v", x.a, x.b, got)
		}
		if got := cell.Same(x.b, x.a); got != x.want {
			t.Errorf("Same(%v, %v) = %v", x.b, x.a, got)
		}
	}
}

func TestSameSeesEachCell(t *testing.T) { // P1.1
	m := make(api.Mem, api.MaxMem)
	if !cell.Same(m, m) || !cell.Same(m, slices.Clone(m)) {
		t.Error("the same are told to differ")
	}
	for i := range m {
		other := slices.Clone(m)
		other[i]++
		if cell.Same(m, other) || cell.Same(other, m) {
			t.Errorf("cell %d is not seen", i)
		}
	}
}

func TestStore(t *testing.T) { // P1.2
	for _, m := range memories() {
		for _, i := range places(m) {
			for _, v := range numbers() {
				if got := cell.Store(m, i, v); !slices.Equal(got, with(m, i, v)) {
					t.Errorf("Store(%v, %d, %d) = %v", m, i, v, got)
				}
			}
		}
	}
	if got := cell.Store(api.Mem{5, 7}, 1, 4); !slices.Equal(got, api.Mem{5, 4}) {
		t.Errorf("Store = %v", got)
	}
}

func TestCas(t *testing.T) { // P1.2
	for _, x := range []struct {
		m        api.Mem
		i        int
		old, new uint64
		want     api.Mem
		done     bool
	}{
		{api.Mem{5, 7}, 0, 5, 9, api.Mem{9, 7}, true},
		{api.Mem{5, 7}, 1, 7, 9, api.Mem{5, 9}, true},
		{api.Mem{5, 7}, 0, 7, 9, api.Mem{5, 7}, false},
		{api.Mem{5, 7}, 1, 5, 9, api.Mem{5, 7}, false},
		{api.Mem{5, 5}, 1, 5, 9, api.Mem{5, 9}, true},
		{api.Mem{5, 7}, 0, 5, 5, api.Mem{5, 7}, true},  // done, though nothing changes
		{api.Mem{5, 7}, 0, 9, 5, api.Mem{5, 7}, false}, // it has the new one, not the old one
		{api.Mem{top}, 0, top, 0, api.Mem{0}, true},
		{api.Mem{0}, 0, 0, top, api.Mem{top}, true},
		{api.Mem{1 << 32}, 0, 0, 1, api.Mem{1 << 32}, false},
		{api.Mem{1 << 63}, 0, 0, 1, api.Mem{1 << 63}, false},
		{api.Mem{0}, 0, top, 1, api.Mem{0}, false},
		{api.Mem{0}, 1, 0, 1, api.Mem{0}, false}, // where there is no cell there is no 0
		{api.Mem{0}, -1, 0, 1, api.Mem{0}, false},
		{api.Mem{5, 7, 9}[:2], 2, 9, 1, api.Mem{5, 7}, false},
		{nil, 0, 0, 1, nil, false},
		{api.Mem{}, 0, 0, 1, nil, false},
		{nil, -1, 0, 0, nil, false},
	} {
		if got, done := cell.Cas(x.m, x.i, x.old, x.new); !slices.Equal(got, x.want) || done != x.done {
			t.Errorf("Cas(%v, %d, %d, %d) = %v, %v", x.m, x.i, x.old, x.new, got, done)
		}
	}
}

func TestCasEverywhere(t *testing.T) { // P1.2, R1
	for _, m := range memories() {
		for _, i := range places(m) {
			for _, old := range numbers() {
				want, is := with(m, -1, 0), there(m, i) && m[i] == old
				if is {
					want = with(m, i, 8)
				}
				if got, done := cell.Cas(m, i, old, 8); !slices.Equal(got, want) || done != is {
					t.Errorf("Cas(%v, %d, %d, 8) = %v, %v", m, i, old, got, done)
				}
			}
		}
	}
}

func TestAdd(t *testing.T) { // P1.2, R7
	for _, x := range []struct {
		m    api.Mem
		i    int
		by   uint64
		want api.Mem
		had  uint64
	}{
		{api.Mem{5, 7}, 0, 2, api.Mem{7, 7}, 5}, // the chapter's example
		{api.Mem{5, 7}, 1, 0, api.Mem{5, 7}, 7},
		{api.Mem{top}, 0, 1, api.Mem{0}, top},
		{api.Mem{top}, 0, 2, api.Mem{1}, top},
		{api.Mem{top}, 0, top, api.Mem{top - 1}, top},
		{api.Mem{1 << 63}, 0, 1 << 63, api.Mem{0}, 1 << 63},
		{api.Mem{5}, 0, top, api.Mem{4}, 5}, // 2^64 less 1 more is one less
		{api.Mem{1<<32 - 1}, 0, 1, api.Mem{1 << 32}, 1<<32 - 1},
		{api.Mem{top, 0}, 0, 1, api.Mem{0, 0}, top}, // nothing is carried into the next one
		{api.Mem{5, 7}, 2, 2, api.Mem{5, 7}, 0},
		{api.Mem{5, 7}, -1, 2, api.Mem{5, 7}, 0},
		{nil, 0, 2, nil, 0},
		{api.Mem{}, 0, 2, nil, 0},
	} {
		if got, had := cell.Add(x.m, x.i, x.by); !slices.Equal(got, x.want) || had != x.had {
			t.Errorf("Add(%v, %d, %d) = %v, %d", x.m, x.i, x.by, got, had)
		}
	}
}

func TestAddEverywhere(t *testing.T) { // P1.2, R1, R7
	for _, m := range memories() {
		for _, i := range places(m) {
			for _, by := range numbers() {
				want, ahead := with(m, -1, 0), uint64(0)
				if there(m, i) {
					want, ahead = with(m, i, sum(m[i], by)), m[i]
				}
				if got, had := cell.Add(m, i, by); !slices.Equal(got, want) || had != ahead {
					t.Errorf("Add(%v, %d, %d) = %v, %d", m, i, by, got, had)
				}
			}
		}
	}
}
