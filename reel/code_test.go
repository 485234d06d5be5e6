package reel

import (
	"math"
	"slices"
	"testing"

	"reel/api"
)

// shapes makes lists of samples of w bits that every kind has a use for.
func shapes(r *ruler, w, n int) [][]int {
	low, high := -(1 << (w - 1)), 1<<(w-1)-1
	fit := func(f func(i int) int) []int {
		l := make([]int, n)
		for i := range l {
			l[i] = min(max(f(i), low), high)
		}
		return l
	}
	from, step, bend := low+r.below(1<<w), r.below(9)-4, r.below(5)-2
	noise, tone, fade := 1+r.below(4), 0.1+float64(r.below(30))/10, 0.5+float64(r.below(50))/100
	twice, late := 1<<r.below(w), r.below(n)
	walk := 0
	return [][]int{
		fit(func(int) int { return low + r.below(1<<w) }),
		fit(func(int) int { return from }),
		fit(func(int) int { return r.below(2*noise+1) - noise }),
		fit(func(i int) int { return from + step*i + r.below(noise) }),
		fit(func(i int) int { return from + step*i + bend*i*i }),
		fit(func(i int) int { return from + step*i + bend*i*i*i/3 }),
		fit(func(i int) int { return step*i*i + bend*i*i*i*i/6 }),
		fit(func(i int) int { return int(float64(high) * math.Sin(tone*float64(i))) }),
		fit(func(i int) int { return int(float64(low) * math.Pow(-fade, float64(i))) }),
		fit(func(i int) int { walk += r.below(2*noise+1) - noise; return walk }),
		fit(func(i int) int { return twice * (r.below(2*noise+1) - noise) &^ (twice - 1) }),
		fit(func(i int) int {
			if i < late {
				return 0
			}
			return low + r.below(1<<w)
		}),
		fit(func(i int) int { return []int{low, high}[i%2] }),
		fit(func(i int) int { return []int{low, high}[r.below(2)] }),
	}
}

func checkCode(t *testing.T, w int, l []int) string {
	t.Helper()
	s, e := Code(w, l)
	if want := codeOf(w, l); s != want || e != api.OK {
		t.Errorf("P5: Code(%d, %v) = %s, %d, want %s", w, l, s, e, want)
	}
	back, n, e := Read(w, len(l), s+"01")
	if !slices.Equal(back, l) || n != len(s) || e != api.OK {
		t.Errorf("P6: Read(%d, %d, %s) = %v, %d, %d, want %v", w, len(l), s, back, n, e, l)
	}
	return s
}

func TestCodeExamples(t *testing.T) {
	for _, c := range []struct {
		w int
		l []int
		s string
	}{
		{4, []int{3, 3, 3}, "000000000011"},
		{4, []int{0}, "000000000000"},
		{4, []int{6, 4}, "00010001011010"},
		{5, []int{1, 2, 3, 4, 5, 6, 7, 8}, "010000000000100010000000111111"},
	} {
		if s := checkCode(t, c.w, c.l); s != c.s {
			t.Errorf("P5: Code(%d, %v) = %s, want %s", c.w, c.l, s, c.s)
		}
	}
}

func TestCodeOfAllSmallLists(t *testing.T) {
	for _, c := range []struct{ w, n int }{{1, 1}, {1, 2}, {1, 3}, {1, 4}, {1, 8}, {2, 1}, {2, 2}, {2, 3}, {2, 5}, {2, 6}, {3, 1}, {3, 3}, {3, 4}, {4, 1}, {4, 2}} {
		l := make([]int, c.n)
		for code := range 1 << (c.w * c.n) {
			for i := range l {
				l[i] = code>>(c.w*i)&(1<<c.w-1) - 1<<(c.w-1)
			}
			checkCode(t, c.w, l)
		}
	}
}

func TestCodeOfManyShapes(t *testing.T) {
	r := ruler(5)
	var kinds [8]int
	var cuts [4]int
	shifts := make([]int, api.MaxWidth)
	for w := 1; w <= api.MaxWidth; w++ {
		for n := 1; n <= api.MaxBlock; n++ {
			for _, l := range shapes(&r, w, n) {
				s := checkCode(t, w, l)
				kind, shift := number(s[:4]), number(s[4:8])
				kinds[kind]++
				shifts[shift]++
				if at := 8 + orderByKind(kind)*(w-shift); kind >= 2 && kind < 7 {
					cuts[number(s[at:at+2])]++
				}
			}
		}
	}
	for _, counts := range [][]int{kinds[:], cuts[:], shifts} {
		if slices.Contains(counts, 0) {
			t.Errorf("the shapes leave something untried: %v", counts)
		}
	}
}

func number(bits string) int {
	v := 0
	for i := range bits {
		v = 2*v + int(bits[i]-'0')
	}
	return v
}

// The greatest products in a and b come from the greatest samples.
func TestCodeOfTheGreatestSamples(t *testing.T) {
	for _, few := range []int{0, 1, 3, 5} {
		for _, pair := range [][2]int{{-4096, 4095}, {-4096, -4095}, {4095, 4095}, {-4096, -4096}} {
			l := make([]int, api.MaxBlock)
			for i := range l {
				l[i] = pair[i%2]
			}
			for i := range few {
				l[i] = few + i
			}
			checkCode(t, api.MaxWidth, l)
		}
	}
}

func TestCodeRefuses(t *testing.T) {
	for _, c := range []struct {
		w int
		l []int
	}{
		{0, []int{0}}, {-1, []int{0}}, {14, []int{0}}, {64, []int{0}}, {math.MinInt, []int{0}}, {math.MaxInt, []int{0}},
		{4, nil}, {4, []int{}}, {4, make([]int, 33)}, {0, nil}, {4, make([]int, 100000)},
		{1, []int{1}}, {1, []int{-2}}, {4, []int{8}}, {4, []int{-9}}, {4, []int{0, 0, 8}}, {13, []int{4096}}, {13, []int{-4097}},
		{13, []int{0, math.MaxInt}}, {13, []int{math.MinInt, 0}},
	} {
		if s, e := Code(c.w, c.l); s != "" || e != api.ErrArg {
			t.Errorf("P5: Code(%d, %v) = %q, %d, want ErrArg", c.w, c.l, s, e)
		}
	}
	for _, c := range []struct {
		w int
		l []int
	}{{1, []int{0, -1}}, {4, []int{7, -8}}, {13, []int{4095, -4096}}, {4, make([]int, 32)}} {
		if s, e := Code(c.w, c.l); s == "" || e != api.OK {
			t.Errorf("P5: Code(%d, %v) = %q, %d, want OK", c.w, c.l, s, e)
		}
	}
}
