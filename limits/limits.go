// Package limits tells what a right configuration, a sample, a sound and a block are,
// and of which sounds a head may tell.
package limits

import "reel/api"

// Within tells whether v is from least to most.
func Within(v, least, most int) bool {
	return least <= v && v <= most
}

// InfoOf is what a head says of a sound of a configuration, of so many samples in a channel.
func InfoOf(c api.Config, samples int) api.Info {
	return api.Info{Channels: c.Channels, Depth: c.Depth, Block: c.Block, Rate: c.Rate, Seek: c.Seek, Samples: samples}
}

// RightInfo tells whether there may be a sound of which a head says this.
func RightInfo(i api.Info) bool {
	return Within(i.Channels, 1, api.MaxChannels) &&
		Within(i.Depth, api.MinDepth, api.MaxDepth) &&
		Within(i.Block, 1, api.MaxBlock) &&
		Within(i.Rate, 0, api.MaxRate) &&
		Within(i.Seek, 0, api.MaxSeek) &&
		Within(i.Samples, 0, api.MaxSamples)
}

// RightConfig tells whether a configuration is right.
func RightConfig(c api.Config) bool {
	return RightInfo(InfoOf(c, 0)) &&
		Within(c.Workers, 1, api.MaxWorkers) &&
		Within(c.Window, 1, api.MaxWindow) &&
		Within(c.Room, 1, api.MaxRoom)
}

// IsSample tells whether v is a sample of width bits; width is at least 1.
func IsSample(width, v int) bool {
	half := 1 << (width - 1)
	return Within(v, -half, half-1)
}

// AreSamples tells whether all of a list are samples of width bits.
func AreSamples(width int, l []int) bool {
	for _, v := range l {
		if !IsSample(width, v) {
			return false
		}
	}
	return true
}

// IsSubframeSize tells whether a subframe may have n samples of width bits.
func IsSubframeSize(width, n int) bool {
	return Within(width, 1, api.MaxWidth) && Within(n, 1, api.MaxBlock)
}

// IsSound tells whether lists are a sound of a right configuration.
func IsSound(c api.Config, lists [][]int) bool {
	return areChannels(c, lists, 0, api.MaxSamples)
}

// IsBlock tells whether lists are a block, of which a frame can be made, of a right configuration.
func IsBlock(c api.Config, lists [][]int) bool {
	return areChannels(c, lists, 1, c.Block)
}

// areChannels tells whether lists are the channels of a right configuration,
// all with the same count of samples, which is from least to most.
func areChannels(c api.Config, lists [][]int, least, most int) bool {
	if len(lists) != c.Channels {
		return false
	}
	count := len(lists[0])
	if !Within(count, least, most) {
		return false
	}
	for _, l := range lists {
		if len(l) != count || !AreSamples(c.Depth, l) {
			return false
		}
	}
	return true
}
