package frame

// What a subframe of a frame of two channels may tell.
const (
	left = iota
	right
	side   // left less right
	middle // half of both together
	choices
)

// Two channels are told as a pair.
const pairChannels = 2

// The modes: as which pair.
const (
	leftRight = iota
	leftSide
	sideRight
	middleSide
)

var pairs = [...][pairChannels]int{
	leftRight:  {left, right},
	leftSide:   {left, side},
	sideRight:  {side, right},
	middleSide: {middle, side},
}

// modes is how many modes a frame of so many channels can have.
func modes(channels int) int {
	if channels == pairChannels {
		return len(pairs)
	}
	return 1
}

// widthOf is how many bits a sample has in a channel's subframe.
func widthOf(depth, channels, mode, channel int) int {
	if channels == pairChannels && pairs[mode][channel] == side {
		return sideWidth(depth)
	}
	return depth
}

// sideWidth has a bit more, for two samples lie further apart than one lies from 0.
func sideWidth(depth int) int {
	return depth + 1
}

func sideOf(l, r []int) []int {
	out := make([]int, len(l))
	for i := range out {
		out[i] = l[i] - r[i]
	}
	return out
}

func middleOf(l, r []int) []int {
	out := make([]int, len(l))
	for i := range out {
		// A shift, not a division: it rounds down below 0 too.
		out[i] = (l[i] + r[i]) >> 1
	}
	return out
}

// unpaired turns what the two subframes tell of a place into left and right.
func unpaired(mode, first, second int) (int, int) {
	switch mode {
	case leftSide:
		return first, first - second
	case sideRight:
		return first + second, second
	case middleSide:
		// Halving dropped the lowest bit of the sum, which the difference has too.
		sum := 2*first + second&1
		return (sum + second) / 2, (sum - second) / 2
	}
	return first, second
}
