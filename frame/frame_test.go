package frame

import "testing"

// A mode tells two samples by two others, from which they come back.
func TestUnpaired(t *testing.T) {
	for l := -9; l <= 9; l++ {
		for r := -9; r <= 9; r++ {
			told := [choices]int{l, r, sideOf([]int{l}, []int{r})[0], middleOf([]int{l}, []int{r})[0]}
			for mode, pair := range pairs {
				if x, y := unpaired(mode, told[pair[0]], told[pair[1]]); x != l || y != r {
					t.Errorf("mode %d of %d and %d gives %d and %d", mode, l, r, x, y)
				}
			}
		}
	}
}

func TestMiddleRoundsDown(t *testing.T) {
	for _, c := range []struct{ l, r, want int }{{1, 2, 1}, {-1, 0, -1}, {-3, 0, -2}, {-8, 7, -1}, {-8, -8, -8}, {7, 7, 7}} {
		if m := middleOf([]int{c.l}, []int{c.r})[0]; m != c.want {
			t.Errorf("half of %d and %d is %d, want %d", c.l, c.r, m, c.want)
		}
	}
}

func TestModesAndWidths(t *testing.T) {
	for channels, want := range map[int]int{1: 1, 2: 4, 3: 1, 4: 1} {
		if modes(channels) != want {
			t.Errorf("%d channels have %d modes, want %d", channels, modes(channels), want)
		}
	}
	for mode, want := range [][2]int{{12, 12}, {12, 13}, {13, 12}, {12, 13}} {
		if w := [2]int{widthOf(12, 2, mode, 0), widthOf(12, 2, mode, 1)}; w != want {
			t.Errorf("mode %d has the widths %v, want %v", mode, w, want)
		}
	}
	for channel := range 4 {
		if w := widthOf(4, 4, 0, channel); w != 4 {
			t.Errorf("channel %d of four has the width %d", channel, w)
		}
	}
}
