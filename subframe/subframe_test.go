package subframe

import (
	"slices"
	"testing"
)

func TestGuessByKind(t *testing.T) {
	ahead := []int{7, -3, 5, 2}
	for kind, want := range map[int]int{2: 0, 3: 2, 4: 2*2 - 5, 5: 3*2 - 3*5 - 3, 6: 4*2 - 6*5 + 4*-3 - 7} {
		if v := fixed(kind).guess(ahead); v != want {
			t.Errorf("kind %d guesses %d, want %d", kind, v, want)
		}
	}
	for _, c := range []struct{ a, b, want int }{{8, 0, 2}, {-32, 31, 11}, {1, -1, -1}, {1, 1, 0}, {0, -1, -1}} {
		if v := leaning(c.a, c.b).guess(ahead); v != c.want {
			t.Errorf("leaning by %d and %d: %d, want %d", c.a, c.b, v, c.want)
		}
	}
}

func TestPartSize(t *testing.T) {
	for _, c := range []struct {
		n, order, cut, size int
		ok                  bool
	}{
		{8, 0, 3, 1, true}, {8, 1, 3, 0, false}, {8, 1, 2, 2, true}, {6, 0, 2, 0, false}, {32, 4, 2, 8, true},
		{32, 3, 3, 4, true}, {32, 4, 3, 0, false}, {1, 0, 0, 1, true}, {1, 0, 1, 0, false},
	} {
		size, ok := partSize(c.n, c.order, c.cut)
		if ok != c.ok || ok && size != c.size {
			t.Errorf("partSize(%d, %d, %d) = %d, %v", c.n, c.order, c.cut, size, ok)
		}
	}
}

func TestShortestParts(t *testing.T) {
	for _, c := range []struct {
		order int
		folds []int
		cut   int
		k     []int
	}{
		{0, []int{0, 0, 0, 0}, 0, []int{0}},
		{0, []int{2, 2}, 0, []int{0}},
		{0, []int{3, 3}, 0, []int{1}},
		{0, []int{1, 1}, 0, []int{0}},
		{0, []int{0, 0, 0, 0, 1000, 1000, 1000, 1000}, 1, []int{0, 9}},
		{1, []int{0, 1000, 0, 0, 0, 0, 0, 0}, 2, []int{9, 0, 0, 0}},
	} {
		p := shortestParts(c.order, c.folds)
		if p.cut != c.cut || !slices.Equal(p.parameters[:len(c.k)], c.k) {
			t.Errorf("shortestParts(%d, %v): cut %d, parameters %v", c.order, c.folds, p.cut, p.parameters)
		}
	}
}

func TestDivideDown(t *testing.T) {
	for _, c := range []struct{ v, d, want int }{{7, 2, 3}, {-7, 2, -4}, {-8, 2, -4}, {0, 5, 0}, {-1, 100, -1}} {
		if q := divideDown(c.v, c.d); q != c.want {
			t.Errorf("divideDown(%d, %d) = %d", c.v, c.d, q)
		}
	}
}

func TestWeightIsBounded(t *testing.T) {
	for _, c := range []struct{ v, d, want int }{{31, 1, 31}, {32, 1, 31}, {-32, 1, -32}, {-33, 1, -32}, {1 << 62, 1, 31}, {-1 << 62, 1, -32}, {-1, 3, -1}, {65, 2, 31}, {-65, 2, -32}} {
		if w := weight(c.v, c.d); w != c.want {
			t.Errorf("weight(%d, %d) = %d, want %d", c.v, c.d, w, c.want)
		}
	}
}
