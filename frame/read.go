package frame

import (
	"reel/api"
	"reel/bittext"
	"reel/limits"
	"reel/subframe"
	"reel/sums"
)

// Read reads the frame of a right configuration, with this number, with which
// the bytes begin: its samples, and how many bytes it has; false, if they begin
// with none.
func Read(c api.Config, number int, s string) ([][]int, int, bool) {
	h, ok := readHead(s)
	if !ok || h.number != number || !h.mayBe(c, len(s)) {
		return nil, 0, false
	}
	whole := s[:h.length]
	if !sums.IsSealedBySixteen(whole) {
		return nil, 0, false
	}
	body := whole[api.FrameHead : len(whole)-sums.SixteenSize]
	lists, ok := readSubframes(c, h, bittext.OfBytes(body))
	if !ok {
		return nil, 0, false
	}
	return lists, h.length, true
}

// readSubframes reads the channels from all bits between the head and Sixteen.
func readSubframes(c api.Config, h head, bits string) ([][]int, bool) {
	lists := make([][]int, 0, c.Channels)
subframes:
	for channel := range c.Channels {
		told, taken, ok := subframe.Read(widthOf(c.Depth, c.Channels, h.mode, channel), h.n, bits)
		if !ok {
			break subframes
		}
		bits = bits[taken:]
		if c.Channels == pairChannels && channel == right {
			first := lists[left]
			for i := range told {
				l, r := unpaired(h.mode, first[i], told[i])
				if !limits.IsSample(c.Depth, l) || !limits.IsSample(c.Depth, r) {
					break subframes
				}
				first[i], told[i] = l, r
			}
		}
		lists = append(lists, told)
	}
	// Where the reading broke off, channels are missing.
	return lists, len(lists) == c.Channels && bittext.IsFill(bits)
}
