// Package head lays down what stands ahead of the frames of a sound, and reads it.
package head

import (
	"reel/api"
	"reel/sound"
)

// Head is what a head says.
type Head struct {
	Info     api.Info
	Finished bool
	Shortest int   // bytes of the shortest frame
	Longest  int   // bytes of the longest frame
	Sum      int   // of the sound
	Points   []int // how many bytes of frames stand ahead of each block that has a point
}

// Unfinished is the head of a sound of whose frames nothing is known yet.
func Unfinished(info api.Info) Head {
	return Head{Info: info, Points: make([]int, points(info))}
}

// Finished is the head of a sound with this sum, whose frames have these lengths.
func Finished(info api.Info, lengths []int, sum int) Head {
	h := Head{Info: info, Finished: true, Sum: sum}
	ahead := 0
	for number, length := range lengths {
		if number == 0 || length < h.Shortest {
			h.Shortest = length
		}
		h.Longest = max(h.Longest, length)
		if info.Seek > 0 && number%info.Seek == 0 {
			h.Points = append(h.Points, ahead)
		}
		ahead += length
	}
	return h
}

// points is how many blocks of a sound have a point.
func points(info api.Info) int {
	if info.Seek == 0 {
		return 0
	}
	// As blocks cut samples, so points cut blocks: one stands ahead of each piece.
	return sound.Blocks(sound.Blocks(info.Samples, info.Block), info.Seek)
}

// Start is the block from which on frames are to be read for the samples from a
// place on, which lies in the sound, and how many bytes behind the head its frame
// begins.
func (h Head) Start(at int) (number, bytes int) {
	if h.Info.Seek == 0 {
		return 0, 0
	}
	point := at / h.Info.Block / h.Info.Seek
	return point * h.Info.Seek, h.Points[point]
}
