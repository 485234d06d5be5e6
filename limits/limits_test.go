package limits

import (
	"math"
	"testing"

	"reel/api"
)

func TestIsSample(t *testing.T) {
	for width := 1; width <= api.MaxWidth; width++ {
		half := int(math.Pow(2, float64(width-1)))
		for v, want := range map[int]bool{-half - 1: false, -half: true, half - 1: true, half: false, math.MinInt: false, math.MaxInt: false} {
			if IsSample(width, v) != want {
				t.Errorf("IsSample(%d, %d) is %v", width, v, !want)
			}
		}
	}
}

func TestIsSubframeSize(t *testing.T) {
	for _, c := range []struct {
		width, n int
		want     bool
	}{{1, 1, true}, {13, 32, true}, {0, 1, false}, {14, 1, false}, {1, 0, false}, {1, 33, false}, {math.MinInt, math.MaxInt, false}} {
		if IsSubframeSize(c.width, c.n) != c.want {
			t.Errorf("IsSubframeSize(%d, %d) is %v", c.width, c.n, !c.want)
		}
	}
}

func TestIsBlockAndIsSound(t *testing.T) {
	c := api.Config{Channels: 2, Depth: 4, Block: 3}
	for i, b := range []struct {
		lists        [][]int
		block, sound bool
	}{
		{[][]int{{1}, {2}}, true, true}, {[][]int{{1, 2, 3}, {-8, 7, 0}}, true, true}, {[][]int{{}, nil}, false, true},
		{[][]int{{1, 2, 3, 4}, {1, 2, 3, 4}}, false, true}, {[][]int{{1, 2}, {1}}, false, false}, {[][]int{{1}, {1, 2}}, false, false},
		{[][]int{{1}}, false, false}, {[][]int{{1}, {1}, {1}}, false, false}, {nil, false, false}, {[][]int{{8}, {1}}, false, false}, {[][]int{{1}, {-9}}, false, false},
	} {
		if IsBlock(c, b.lists) != b.block || IsSound(c, b.lists) != b.sound {
			t.Errorf("lists %d: IsBlock %v, IsSound %v", i, !b.block, !b.sound)
		}
	}
}

func TestRightInfo(t *testing.T) {
	c := api.Config{Channels: 4, Depth: 12, Block: 32, Rate: 65535, Seek: 255, Workers: 1, Window: 1, Room: 1}
	for samples, want := range map[int]bool{-1: false, 0: true, 300: true, 301: false, 65535: false} {
		if RightInfo(InfoOf(c, samples)) != want {
			t.Errorf("%d samples: %v", samples, !want)
		}
	}
	for _, change := range []func(i *api.Info){
		func(i *api.Info) { i.Channels = 5 }, func(i *api.Info) { i.Depth = 3 }, func(i *api.Info) { i.Block = 33 },
		func(i *api.Info) { i.Rate = 65536 }, func(i *api.Info) { i.Seek = 256 },
	} {
		i := InfoOf(c, 0)
		if change(&i); RightInfo(i) {
			t.Errorf("%+v is taken for right", i)
		}
	}
}
