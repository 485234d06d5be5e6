// Package stream packs a sound into a stream, and reads streams back.
package stream

import (
	"strings"

	"reel/api"
	"reel/frame"
	"reel/head"
	"reel/limits"
	"reel/sound"
)

// Encode is the stream of a sound of a right configuration.
func Encode(c api.Config, lists [][]int) string {
	info := limits.InfoOf(c, len(lists[0]))
	var frames strings.Builder
	var lengths []int
	for number := range sound.Blocks(info.Samples, c.Block) {
		made := frame.Make(c, number, sound.Block(lists, c.Block, number))
		frames.WriteString(made)
		lengths = append(lengths, len(made))
	}
	return head.Finished(info, lengths, sound.Sum(lists)).Lay() + frames.String()
}
