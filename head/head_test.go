package head

import (
	"slices"
	"testing"

	"reel/api"
	"reel/sums"
)

func TestFinished(t *testing.T) {
	info := api.Info{Channels: 1, Depth: 4, Block: 2, Samples: 9, Seek: 2}
	h := Finished(info, []int{12, 15, 11, 20, 13}, 77)
	if h.Shortest != 11 || h.Longest != 20 || h.Sum != 77 || !h.Finished || h.Info != info || !slices.Equal(h.Points, []int{0, 27, 58}) {
		t.Errorf("the head is %+v", h)
	}
	info.Seek = 0
	if h := Finished(info, []int{12, 15, 11, 20, 13}, 77); len(h.Points) != 0 || h.Shortest != 11 {
		t.Errorf("the head without points is %+v", h)
	}
	if h := Finished(info, nil, 1); h.Shortest != 0 || h.Longest != 0 {
		t.Errorf("the head of no frames is %+v", h)
	}
}

func TestHeadsComeBack(t *testing.T) {
	info := api.Info{Channels: 4, Depth: 12, Block: 32, Rate: 65535, Seek: 1, Samples: 300}
	lengths := []int{200, 201, 202, 203, 204, 205, 206, 207, 208, 209}
	for _, h := range []Head{Finished(info, lengths, 1<<32-1), Unfinished(info), Finished(api.Info{Channels: 1, Depth: 4, Block: 1}, nil, 1)} {
		s := h.Lay()
		if len(s) != api.HeadSize+2*len(h.Points)+sums.SixteenSize {
			t.Errorf("%+v has %d bytes", h, len(s))
		}
		got, size, ok := Read(s + "behind")
		if !ok || size != len(s) || got.Info != h.Info || got.Finished != h.Finished || got.Shortest != h.Shortest ||
			got.Longest != h.Longest || got.Sum != h.Sum || !slices.Equal(got.Points, h.Points) {
			t.Errorf("%+v comes back as %+v, %d, %v", h, got, size, ok)
		}
	}
}

func TestStart(t *testing.T) {
	info := api.Info{Channels: 1, Depth: 4, Block: 3, Samples: 20, Seek: 2}
	h := Finished(info, []int{10, 11, 12, 13, 14, 15, 16}, 0)
	for _, c := range []struct{ at, number, bytes int }{{0, 0, 0}, {5, 0, 0}, {6, 2, 21}, {11, 2, 21}, {12, 4, 46}, {17, 4, 46}, {18, 6, 75}, {19, 6, 75}} {
		if number, bytes := h.Start(c.at); number != c.number || bytes != c.bytes {
			t.Errorf("from %d on the reading starts at block %d, %d bytes behind the head", c.at, number, bytes)
		}
	}
	info.Seek = 0
	if number, bytes := Finished(info, []int{10, 11, 12, 13, 14, 15, 16}, 0).Start(19); number != 0 || bytes != 0 {
		t.Errorf("without points the reading starts at block %d, %d bytes behind the head", number, bytes)
	}
}

// The fields are as long as the document says that all of them are.
func TestSizes(t *testing.T) {
	if eightAt+sums.EightSize != api.HeadSize {
		t.Errorf("Eight stands at %d", eightAt)
	}
}
