package stream

import (
	"slices"

	"reel/api"
	"reel/frame"
	"reel/head"
	"reel/limits"
	"reel/sound"
)

// run is what was read of frames that stand one behind the other.
type run struct {
	lists   [][]int // their samples, a list for each channel
	lengths []int   // how many bytes each frame has
	whole   bool    // they reach to the last block's, and nothing stands behind them
}

// Decode gives back what the head of a whole stream says, and its samples.
func Decode(s string) (api.Info, [][]int, api.Errno) {
	h, size, ok := head.Read(s)
	if !ok || !h.Finished {
		return api.Info{}, nil, api.ErrHead
	}
	r := readFrames(h.Info, 0, s[size:])
	if !r.whole || !saysOf(h, r.lengths) {
		return api.Info{}, nil, api.ErrFrame
	}
	if h.Sum != sound.Sum(r.lists) {
		return api.Info{}, nil, api.ErrSum
	}
	return h.Info, r.lists, api.OK
}

// Salvage gives back what a head says, finished or not, and the samples of the
// whole frames behind it.
func Salvage(s string) (api.Info, [][]int, api.Errno) {
	h, size, ok := head.Read(s)
	if !ok {
		return api.Info{}, nil, api.ErrHead
	}
	return h.Info, readFrames(h.Info, 0, s[size:]).lists, api.OK
}

// From gives back a stream's samples from a place on.
func From(s string, at int) ([][]int, api.Errno) {
	h, size, ok := head.Read(s)
	if !ok || !h.Finished {
		return nil, api.ErrHead
	}
	if !limits.Within(at, 0, h.Info.Samples) {
		return nil, api.ErrArg
	}
	if at == h.Info.Samples {
		return make([][]int, h.Info.Channels), api.OK
	}
	number, bytes := h.Start(at)
	if bytes > len(s)-size {
		return nil, api.ErrFrame
	}
	r := readFrames(h.Info, number, s[size+bytes:])
	if !r.whole {
		return nil, api.ErrFrame
	}
	for channel, l := range r.lists {
		r.lists[channel] = l[at-number*h.Info.Block:]
	}
	return r.lists, api.OK
}

// saysOf tells whether a head's lengths and points are those of the frames.
func saysOf(h head.Head, lengths []int) bool {
	want := head.Finished(h.Info, lengths, h.Sum)
	return h.Shortest == want.Shortest && h.Longest == want.Longest && slices.Equal(h.Points, want.Points)
}

// readFrames reads frames from this number on, one behind the other, each of as
// many samples as its block has: up to the last block's, or to the first that is
// none.
func readFrames(info api.Info, number int, s string) run {
	c := api.Config{Channels: info.Channels, Depth: info.Depth, Block: info.Block}
	r := run{lists: make([][]int, info.Channels)}
	blocks := sound.Blocks(info.Samples, info.Block)
frames:
	for ; number < blocks; number++ {
		block, length, ok := frame.Read(c, number, s)
		if !ok {
			break frames
		}
		for channel, l := range block {
			if len(l) != sound.BlockSamples(info.Samples, info.Block, number) {
				break frames
			}
			r.lists[channel] = append(r.lists[channel], l...)
		}
		r.lengths = append(r.lengths, length)
		s = s[length:]
	}
	r.whole = number == blocks && s == ""
	return r
}
