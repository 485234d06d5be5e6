package head

import (
	"strings"

	"reel/api"
	"reel/bytenum"
	"reel/limits"
	"reel/sums"
)

// name is how every head begins.
const name = "RL"

// How many bytes the fields of a head have, in their order; Eight ends them, and
// behind it stand the points and Sixteen.
const (
	nameSize     = len(name)
	finishedSize = 1
	channelsSize = 1
	depthSize    = 1
	blockSize    = 1
	rateSize     = 2
	samplesSize  = 2
	seekSize     = 1
	shortestSize = 2
	longestSize  = 2
	sumSize      = 4
	pointSize    = 2
)

// Where they stand.
const (
	finishedAt = nameSize
	channelsAt = finishedAt + finishedSize
	depthAt    = channelsAt + channelsSize
	blockAt    = depthAt + depthSize
	rateAt     = blockAt + blockSize
	samplesAt  = rateAt + rateSize
	seekAt     = samplesAt + samplesSize
	shortestAt = seekAt + seekSize
	longestAt  = shortestAt + shortestSize
	sumAt      = longestAt + longestSize
	eightAt    = sumAt + sumSize
)

// What stands in the field that says whether the head is finished.
const (
	unfinished = 0
	finished   = 1
)

// Lay lays the head down.
func (h Head) Lay() string {
	mark := unfinished
	if h.Finished {
		mark = finished
	}
	fields := name +
		bytenum.In(mark, finishedSize) +
		bytenum.In(h.Info.Channels, channelsSize) +
		bytenum.In(h.Info.Depth, depthSize) +
		bytenum.In(h.Info.Block, blockSize) +
		bytenum.In(h.Info.Rate, rateSize) +
		bytenum.In(h.Info.Samples, samplesSize) +
		bytenum.In(h.Info.Seek, seekSize) +
		bytenum.In(h.Shortest, shortestSize) +
		bytenum.In(h.Longest, longestSize) +
		bytenum.In(h.Sum, sumSize)
	return sums.SealBySixteen(sums.SealByEight(fields) + layPoints(h.Points))
}

func layPoints(points []int) string {
	var out strings.Builder
	for _, point := range points {
		out.WriteString(bytenum.In(point, pointSize))
	}
	return out.String()
}

// Read reads the head with which the bytes begin, and tells how many bytes it
// has; false, if they begin with none.
func Read(s string) (Head, int, bool) {
	if len(s) < api.HeadSize || !sums.IsSealedByEight(s[:api.HeadSize]) {
		return Head{}, 0, false
	}
	h, ok := readFields(s)
	if !ok {
		return Head{}, 0, false
	}
	pointsEnd := api.HeadSize + pointSize*points(h.Info)
	size := pointsEnd + sums.SixteenSize
	if len(s) < size || !sums.IsSealedBySixteen(s[:size]) {
		return Head{}, 0, false
	}
	if !h.Finished && s[:size] != Unfinished(h.Info).Lay() {
		// It says what can't be known yet.
		return Head{}, 0, false
	}
	h.Points = readPoints(s[api.HeadSize:pointsEnd])
	return h, size, true
}

// readFields reads what stands ahead of Eight.
func readFields(s string) (Head, bool) {
	mark := bytenum.Value(s[finishedAt:channelsAt])
	h := Head{
		Info: api.Info{
			Channels: bytenum.Value(s[channelsAt:depthAt]),
			Depth:    bytenum.Value(s[depthAt:blockAt]),
			Block:    bytenum.Value(s[blockAt:rateAt]),
			Rate:     bytenum.Value(s[rateAt:samplesAt]),
			Samples:  bytenum.Value(s[samplesAt:seekAt]),
			Seek:     bytenum.Value(s[seekAt:shortestAt]),
		},
		Finished: mark == finished,
		Shortest: bytenum.Value(s[shortestAt:longestAt]),
		Longest:  bytenum.Value(s[longestAt:sumAt]),
		Sum:      bytenum.Value(s[sumAt:eightAt]),
	}
	ok := s[:finishedAt] == name && mark <= finished && limits.RightInfo(h.Info)
	return h, ok
}

func readPoints(s string) []int {
	var out []int
	for at := 0; at < len(s); at += pointSize {
		out = append(out, bytenum.Value(s[at:at+pointSize]))
	}
	return out
}
