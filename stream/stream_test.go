package stream

import (
	"slices"
	"testing"

	"reel/api"
	"reel/frame"
)

// Reading breaks off at the first that is no frame, and keeps what stood ahead of it.
func TestReadFrames(t *testing.T) {
	info := api.Info{Channels: 2, Depth: 5, Block: 2, Samples: 5}
	c := api.Config{Channels: 2, Depth: 5, Block: 2}
	var frames [3]string
	frames[0] = frame.Make(c, 0, [][]int{{1, 2}, {11, 12}})
	frames[1] = frame.Make(c, 1, [][]int{{3, 4}, {13, 14}})
	frames[2] = frame.Make(c, 2, [][]int{{5}, {15}})
	for i, r := range []struct {
		number int
		s      string
		left   []int
		right  []int
		whole  bool
	}{
		{0, frames[0] + frames[1] + frames[2], []int{1, 2, 3, 4, 5}, []int{11, 12, 13, 14, 15}, true},
		{1, frames[1] + frames[2], []int{3, 4, 5}, []int{13, 14, 15}, true},
		{2, frames[2], []int{5}, []int{15}, true},
		{0, frames[0] + frames[1], []int{1, 2, 3, 4}, []int{11, 12, 13, 14}, false},
		{0, frames[0] + frames[1] + frames[2] + "x", []int{1, 2, 3, 4, 5}, []int{11, 12, 13, 14, 15}, false},
		{0, frames[0] + frames[2], []int{1, 2}, []int{11, 12}, false},
		{1, frames[0], nil, nil, false},
		{0, "", nil, nil, false},
		{3, "", nil, nil, true},
	} {
		got := readFrames(info, r.number, r.s)
		if len(got.lists) != 2 || !slices.Equal(got.lists[0], r.left) || !slices.Equal(got.lists[1], r.right) || got.whole != r.whole {
			t.Errorf("reading %d gives %+v", i, got)
		}
	}
}
