package frame

import (
	"strings"

	"reel/api"
	"reel/bittext"
	"reel/subframe"
	"reel/sums"
)

// Make packs a block of a right configuration into the frame of this number.
func Make(c api.Config, number int, block [][]int) string {
	mode, bits := shortestMode(c.Depth, block)
	body := bittext.Bytes(bits)
	h := head{
		number: number,
		length: api.FrameHead + len(body) + sums.SixteenSize,
		n:      len(block[0]),
		mode:   mode,
	}
	return sums.SealBySixteen(h.lay() + body)
}

// shortestMode is the mode with which the subframes have the fewest bits, of
// several such the least, and these bits.
func shortestMode(depth int, block [][]int) (int, string) {
	if len(block) != pairChannels {
		return 0, codeAll(depth, block)
	}
	codes := codePair(depth, block[left], block[right])
	best, bits := 0, ""
	for mode, pair := range pairs {
		tried := codes[pair[0]] + codes[pair[1]]
		if mode == 0 || len(tried) < len(bits) {
			best, bits = mode, tried
		}
	}
	return best, bits
}

func codeAll(depth int, block [][]int) string {
	var out strings.Builder
	for _, l := range block {
		out.WriteString(subframe.Code(depth, l))
	}
	return out.String()
}

// codePair makes the subframes of all that a frame of two channels may tell.
func codePair(depth int, l, r []int) [choices]string {
	return [choices]string{
		left:   subframe.Code(depth, l),
		right:  subframe.Code(depth, r),
		side:   subframe.Code(sideWidth(depth), sideOf(l, r)),
		middle: subframe.Code(depth, middleOf(l, r)),
	}
}
