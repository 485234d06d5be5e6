// Package stream packs a sound into a stream, and reads streams back.
package stream

import (
	"strings"

	"reel/api"
	"reel/frame"
	"reel/head"
	"reel/limits"
	"reel/sound"
)

// Encode is the stream of a sound of a right configuration.
func Encode(c api.Config, lists [][]int) string {
	info := limits.InfoOf(c, len(lists[0]))
	var frames []string
	for number := range sound.Blocks(info.Samples, c.Block) {
		frames = append(frames, frame.Make(c, number, sound.Block(lists, c.Block, number)))
	}
	return Join(info, frames, sound.Sum(lists))
}

// Join is the stream of a sound with this sum, whose blocks have these frames.
func Join(info api.Info, frames []string, sum int) string {
	var lengths []int
	for _, f := range frames {
		lengths = append(lengths, len(f))
	}
	return head.Finished(info, lengths, sum).Lay() + strings.Join(frames, "")
}
