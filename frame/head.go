// Package frame packs a block of all channels into a frame, and reads frames back.
package frame

import (
	"reel/api"
	"reel/bytenum"
	"reel/limits"
	"reel/sums"
)

// How many bytes the fields of a frame's head have, in their order; Eight ends it.
const (
	markSize   = 1
	numberSize = 2
	lengthSize = 2
	countSize  = 1
	modeSize   = 1
)

// Where they stand.
const (
	numberAt = markSize
	lengthAt = numberAt + numberSize
	countAt  = lengthAt + lengthSize
	modeAt   = countAt + countSize
	eightAt  = modeAt + modeSize
)

// head is what a frame says ahead of its subframes.
type head struct {
	number int
	length int // of the whole frame in bytes
	n      int // samples in a channel
	mode   int
}

func (h head) lay() string {
	return sums.SealByEight(bytenum.In(api.Mark, markSize) +
		bytenum.In(h.number, numberSize) +
		bytenum.In(h.length, lengthSize) +
		bytenum.In(h.n-1, countSize) +
		bytenum.In(h.mode, modeSize))
}

// readHead reads the head with which the bytes begin; false, if they begin with none.
func readHead(s string) (head, bool) {
	if len(s) < api.FrameHead || s[0] != api.Mark || !sums.IsSealedByEight(s[:api.FrameHead]) {
		return head{}, false
	}
	return head{
		number: bytenum.Value(s[numberAt:lengthAt]),
		length: bytenum.Value(s[lengthAt:countAt]),
		n:      bytenum.Value(s[countAt:modeAt]) + 1,
		mode:   bytenum.Value(s[modeAt:eightAt]),
	}, true
}

// mayBe tells whether a frame of this configuration can have this head, and
// lie in so many bytes.
func (h head) mayBe(c api.Config, bytes int) bool {
	return limits.Within(h.length, api.FrameHead+sums.SixteenSize, bytes) &&
		h.n <= c.Block &&
		h.mode < modes(c.Channels)
}
