package cell_test

import (
	"slices"
	"testing"

	"poacher/api"
	"poacher/cell"
)

// change is one of the calls that answer cells: done tells whether cell i has what the call lays there.
type change struct {
	name string
	do   func(m api.Mem, i int, v uint64) (out api.Mem, done bool)
}

func changes() []change {
	return []change{
		{"Store", func(m api.Mem, i int, v uint64) (api.Mem, bool) {
			return cell.Store(m, i, v), true
		}},
		{"Cas that is done", func(m api.Mem, i int, v uint64) (api.Mem, bool) {
			return cell.Cas(m, i, cell.Load(m, i), v)
		}},
		{"Cas that is not", func(m api.Mem, i int, v uint64) (api.Mem, bool) {
			return cell.Cas(m, i, cell.Load(m, i)+1, v)
		}},
		{"Add", func(m api.Mem, i int, v uint64) (api.Mem, bool) {
			out, _ := cell.Add(m, i, v-cell.Load(m, i))
			return out, true
		}},
	}
}

func TestStoredIsLoaded(t *testing.T) { // P1.3
	for _, c := range changes() {
		for _, m := range memories() {
			for _, i := range places(m) {
				for _, v := range numbers() {
					out, done := c.do(m, i, v)
					if done && there(m, i) && cell.Load(out, i) != v {
						t.Errorf("%s at %d of %v: %d is stored, %d is loaded", c.name, i, m, v, cell.Load(out, i))
					}
					if !done && !cell.Same(out, m) {
						t.Errorf("%s at %d of %v: %v", c.name, i, m, out)
					}
				}
			}
		}
	}
}

func TestNoOtherCellChanges(t *testing.T) { // P1.3, R4
	for _, c := range changes() {
		for _, m := range memories() {
			for _, i := range places(m) {
				out, _ := c.do(m, i, 77)
				if len(out) != len(m) {
					t.Fatalf("%s at %d of %v: %d cells", c.name, i, m, len(out))
				}
				for j := range m {
					if j != i && cell.Load(out, j) != m[j] {
						t.Errorf("%s at %d of %v: cell %d is %d", c.name, i, m, j, out[j])
					}
				}
			}
		}
	}
}

func TestHandedInStays(t *testing.T) { // R3
	for _, c := range changes() {
		for _, m := range memories() {
			whole := slices.Clone(m[:cap(m)]) // also what lies behind the end is not touched
			for _, i := range places(m) {
				c.do(m, i, 77)
				if !slices.Equal(m[:cap(m)], whole) {
					t.Fatalf("%s at %d: %v is now %v", c.name, i, whole, m[:cap(m)])
				}
			}
		}
	}
}

func TestAnswerIsTheCallersOwn(t *testing.T) { // R3
	for _, c := range changes() {
		for _, first := range memories() {
			for _, i := range places(first) {
				m := append(make(api.Mem, 0, cap(first)), first...)
				out, _ := c.do(m, i, 77)
				want := slices.Clone(out)
				for j := range m[:cap(m)] {
					m[:cap(m)][j] = 1234
				}
				if !slices.Equal(out, want) {
					t.Fatalf("%s at %d: what was handed in changes the answer", c.name, i)
				}
				for j := range out {
					out[j] = 4321
				}
				_ = append(out, 4321)
				if slices.Contains(m[:cap(m)], 4321) {
					t.Fatalf("%s at %d: the answer changes what was handed in", c.name, i)
				}
			}
		}
	}
}

func TestAnswersShareNothing(t *testing.T) { // R3, R5
	for _, c := range changes() {
		m := api.Mem{5, 7, 9}
		for _, i := range places(m) {
			one, _ := c.do(m, i, 77)
			two, _ := c.do(m, i, 77)
			if !slices.Equal(one, two) {
				t.Fatalf("%s at %d: %v, then %v", c.name, i, one, two)
			}
			want := slices.Clone(two)
			clear(one)
			if !slices.Equal(two, want) {
				t.Fatalf("%s at %d: two answers share cells", c.name, i)
			}
		}
	}
}

func TestLookingChangesNothing(t *testing.T) { // R3
	for _, m := range memories() {
		was := slices.Clone(m)
		for _, i := range places(m) {
			cell.Load(m, i)
		}
		cell.Same(m, was)
		cell.Same(was, m)
		if !slices.Equal(m, was) {
			t.Errorf("%v is now %v", was, m)
		}
	}
}
