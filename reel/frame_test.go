package reel

import (
	"math"
	"slices"
	"testing"

	"reel/api"
)

func configOf(channels, depth, block int) api.Config {
	return api.Config{Channels: channels, Depth: depth, Block: block, Workers: 1, Window: 1, Room: 1}
}

func sameLists(a, b [][]int) bool {
	return slices.EqualFunc(a, b, slices.Equal[[]int])
}

// checkFrame holds Frame against the document, and Unframe against Frame.
func checkFrame(t *testing.T, c api.Config, number int, block [][]int) string {
	t.Helper()
	s, e := Frame(c, number, block)
	if want := frameOf(c.Depth, number, block); s != want || e != api.OK {
		t.Errorf("P7: Frame(%+v, %d, %v) = %v, %d, want %v", c, number, block, []byte(s), e, []byte(want))
	}
	readsFrame(t, c, number, s, block)
	return s
}

// readsFrame holds Unframe against a frame and what may stand behind it.
func readsFrame(t *testing.T, c api.Config, number int, s string, want [][]int) {
	t.Helper()
	for _, behind := range []string{"", "\x00", "\xff\xa5", s} {
		if len(s+behind) > api.MaxStream {
			continue
		}
		got, n, e := Unframe(c, number, s+behind)
		if !sameLists(got, want) || n != len(s) || e != api.OK {
			t.Errorf("P8: Unframe(%+v, %d, %v) = %v, %d, %d, want %v, %d", c, number, brief(s+behind), got, n, e, want, len(s))
		}
	}
}

// brief is what a message tells of bytes.
func brief(s string) []byte {
	return []byte(s[:min(len(s), 60)])
}

func TestFrameExamples(t *testing.T) {
	for _, f := range []struct {
		number int
		block  [][]int
		want   string
	}{
		{0, [][]int{{6, 4}}, laidDown(165, 0, 0, 0, 12, 1, 0, 110, 17, 104, 40, 21)},
		{1, [][]int{{1}}, laidDown(165, 0, 1, 0, 12, 0, 0, 25, 0, 16, 217, 212)},
	} {
		if s := checkFrame(t, rightConfig(), f.number, f.block); s != f.want {
			t.Errorf("P7: Frame(E, %d, %v) = %v, want %v", f.number, f.block, []byte(s), []byte(f.want))
		}
	}
	l, r := []int{5, 3, 7, 1}, []int{4, 2, 6, 0}
	for mode, want := range []int{44, 37, 33, 33} {
		if n := len(pairBits(4, l, r)[mode]); n != want {
			t.Errorf("mode %d has %d bits, want %d", mode, n, want)
		}
	}
	if s := checkFrame(t, configOf(2, 4, 4), 7, [][]int{l, r}); len(s) != 15 || s[6] != 2 {
		t.Errorf("P7: the frame of L and R is %v, want 15 bytes of mode 2", []byte(s))
	}
}

func TestFrameOfEachNumberAndLength(t *testing.T) {
	for _, number := range []int{0, 1, 2, 254, 255, 256, 257, 4660, 32767, 32768, 65534, 65535} {
		checkFrame(t, configOf(1, 12, 5), number, [][]int{{number % 2048, 3, -5}})
	}
	for n := 1; n <= api.MaxBlock; n++ {
		checkFrame(t, configOf(3, 5, n), n, silent(3, n))
	}
}

// fewest tells which modes have the fewest bits.
func fewest(all [4]string) [4]bool {
	least := min(len(all[0]), len(all[1]), len(all[2]), len(all[3]))
	var out [4]bool
	for mode := range all {
		out[mode] = len(all[mode]) == least
	}
	return out
}

func TestFrameOfEachPairOfSamples(t *testing.T) {
	for l := -8; l < 8; l++ {
		for r := -8; r < 8; r++ {
			checkFrame(t, configOf(2, 4, 1), 0, [][]int{{l}, {r}})
		}
	}
}

func TestFrameOfManyPairs(t *testing.T) {
	r := ruler(8)
	ties := map[[4]bool]int{}
	for depth := api.MinDepth; depth <= api.MaxDepth; depth++ {
		for _, n := range []int{1, 2, 3, 4, 5, 6, 8, 12, 17, 32} {
			all := twins(&r, depth, n)
			for range 1 + 60/n {
				block := all[r.below(len(all))]
				checkFrame(t, configOf(2, depth, api.MaxBlock), r.below(65536), block)
				ties[fewest(pairBits(depth, block[0], block[1]))]++
			}
		}
	}
	if len(ties) != 15 {
		t.Errorf("only these of the 15 ways to be shortest are tried: %v", ties)
	}
}

// twins are pairs of channels of which now this mode, now that one is shortest.
func twins(r *ruler, depth, n int) [][][]int {
	half := 1 << (depth - 1)
	fit := func(v int) int { return min(max(v, -half), half-1) }
	lists := shapes(r, depth, n)
	var out [][][]int
	for i, l := range lists {
		near, apart, turned := make([]int, n), make([]int, n), make([]int, n)
		for j := range l {
			near[j] = fit(l[j] + r.below(5) - 2)
			apart[j] = fit(l[j] - i)
			turned[j] = fit(-l[j])
		}
		other := lists[r.below(len(lists))]
		out = append(out, [][]int{l, near}, [][]int{l, apart}, [][]int{apart, l}, [][]int{l, turned}, [][]int{l, other}, [][]int{other, l}, [][]int{l, slices.Clone(l)})
	}
	return out
}

func TestFrameOfAnyChannels(t *testing.T) {
	r := ruler(9)
	for _, channels := range []int{1, 3, 4} {
		for depth := api.MinDepth; depth <= api.MaxDepth; depth++ {
			for _, n := range []int{1, 2, 3, 4, 5, 7, 8, 19, 32} {
				lists := shapes(&r, depth, n)
				for range 1 + 4/n {
					block := make([][]int, channels)
					for i := range block {
						block[i] = lists[r.below(len(lists))]
					}
					checkFrame(t, configOf(channels, depth, api.MaxBlock), r.below(65536), block)
				}
			}
		}
	}
}

// Samples that lie as far apart as can be need the bit that S has more.
func TestFrameOfTheGreatestSamples(t *testing.T) {
	for depth := api.MinDepth; depth <= api.MaxDepth; depth++ {
		low, high := -(1 << (depth - 1)), 1<<(depth-1)-1
		for _, v := range [][2]int{{low, high}, {high, low}, {low, low}, {high, high}} {
			for _, n := range []int{1, 2, 32} {
				block := [][]int{slices.Repeat([]int{v[0]}, n), slices.Repeat([]int{v[1]}, n)}
				checkFrame(t, configOf(2, depth, 32), 3, block)
				block[0][n/2], block[1][n/2] = v[1], v[0]
				checkFrame(t, configOf(2, depth, 32), 3, block)
			}
		}
	}
}

func TestFrameHangsOnWhatItIsGiven(t *testing.T) {
	c := configOf(1, 6, 8)
	want, _ := Frame(c, 5, [][]int{{1, 2, 3}})
	c.Rate, c.Seek, c.Workers, c.Window, c.Room, c.Block = 65535, 255, 8, 16, 8, 3
	if s, e := Frame(c, 5, [][]int{{1, 2, 3}}); s != want || e != api.OK {
		t.Errorf("P7: Frame = %v, %d, want %v", []byte(s), e, []byte(want))
	}
}

// Each of these has the errors behind its own one too, but none ahead of it.
func TestFrameErrorsInTheirOrder(t *testing.T) {
	bad, two := rightConfig(), configOf(2, 4, 4)
	bad.Window = 0
	for i, f := range []struct {
		c      api.Config
		number int
		block  [][]int
		want   api.Errno
	}{
		{api.Config{}, -1, nil, api.ErrConfig}, {bad, 65536, [][]int{{8}}, api.ErrConfig}, {bad, 0, [][]int{{6, 4}}, api.ErrConfig},
		{rightConfig(), -1, nil, api.ErrArg}, {rightConfig(), 65536, [][]int{{8}}, api.ErrArg}, {rightConfig(), -1, [][]int{{6, 4}}, api.ErrArg},
		{rightConfig(), math.MinInt, [][]int{{6, 4}}, api.ErrArg}, {rightConfig(), math.MaxInt, [][]int{{6, 4}}, api.ErrArg},
		{rightConfig(), 0, nil, api.ErrSound}, {rightConfig(), 0, [][]int{}, api.ErrSound}, {rightConfig(), 0, [][]int{nil}, api.ErrSound}, {rightConfig(), 0, [][]int{{}}, api.ErrSound},
		{rightConfig(), 0, [][]int{{1, 2, 3}}, api.ErrSound}, {rightConfig(), 0, [][]int{{1}, {2}}, api.ErrSound}, {rightConfig(), 0, [][]int{{8}}, api.ErrSound}, {rightConfig(), 0, [][]int{{1, -9}}, api.ErrSound},
		{rightConfig(), 0, [][]int{{math.MinInt}}, api.ErrSound}, {rightConfig(), 0, [][]int{{math.MaxInt}}, api.ErrSound},
		{two, 0, [][]int{{1}}, api.ErrSound}, {two, 0, [][]int{{1}, {1}, {1}}, api.ErrSound}, {two, 0, [][]int{{1, 2}, {1}}, api.ErrSound}, {two, 0, [][]int{{1}, {1, 2}}, api.ErrSound},
		{two, 0, [][]int{{}, {}}, api.ErrSound}, {two, 0, [][]int{{1}, nil}, api.ErrSound}, {two, 0, [][]int{{7}, {8}}, api.ErrSound}, {two, 0, silent(2, 5), api.ErrSound},
		{configOf(4, 4, 32), 0, silent(4, 33), api.ErrSound},
	} {
		if s, e := Frame(f.c, f.number, f.block); s != "" || e != f.want {
			t.Errorf("P7: call %d: %q, %d, want %d", i, s, e, f.want)
		}
	}
	for _, number := range []int{0, 65535} {
		if s, e := Frame(configOf(4, 4, 32), number, silent(4, 32)); s == "" || e != api.OK {
			t.Errorf("P7: number %d: %q, %d, want OK", number, s, e)
		}
	}
}
