package limits

import (
	"math"
	"testing"

	"reel/api"
)

func TestIsSample(t *testing.T) {
	for width := 1; width <= api.MaxWidth; width++ {
		half := int(math.Pow(2, float64(width-1)))
		for v, want := range map[int]bool{-half - 1: false, -half: true, half - 1: true, half: false, math.MinInt: false, math.MaxInt: false} {
			if IsSample(width, v) != want {
				t.Errorf("IsSample(%d, %d) is %v", width, v, !want)
			}
		}
	}
}

func TestIsSubframeSize(t *testing.T) {
	for _, c := range []struct {
		width, n int
		want     bool
	}{{1, 1, true}, {13, 32, true}, {0, 1, false}, {14, 1, false}, {1, 0, false}, {1, 33, false}, {math.MinInt, math.MaxInt, false}} {
		if IsSubframeSize(c.width, c.n) != c.want {
			t.Errorf("IsSubframeSize(%d, %d) is %v", c.width, c.n, !c.want)
		}
	}
}
