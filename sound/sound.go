// Package sound cuts a sound into blocks, and sums its samples up.
package sound

import "reel/sums"

// SumOfNothing is the sum of a sound without samples.
const SumOfNothing = sums.SumOfNothing

// sampleSize is how many bytes a sample has in the sum.
const sampleSize = 2

// Blocks is how many blocks of this size a sound has, of so many samples in a channel.
func Blocks(samples, size int) int {
	return (samples + size - 1) / size
}

// BlockSamples is how many samples a block of such a sound has in a channel;
// only the last one may have fewer than the others.
func BlockSamples(samples, size, number int) int {
	return min(size, samples-number*size)
}

// Block is the block of a sound that has this number. Its lists are pieces of
// the sound's: whoever asks for them does not write into them.
func Block(lists [][]int, size, number int) [][]int {
	out := make([][]int, len(lists))
	for channel, l := range lists {
		from := number * size
		out[channel] = l[from : from+BlockSamples(len(l), size, number)]
	}
	return out
}

// Sum is the sum of a sound, which has at least one channel.
func Sum(lists [][]int) int {
	return SumOn(SumOfNothing, lists)
}

// SumOn is the sum of a sound up to the end of a block; that of all ahead of the
// block is told.
func SumOn(sum int, lists [][]int) int {
	out := make([]byte, 0, sampleSize*len(lists)*len(lists[0]))
	for place := range lists[0] {
		for _, l := range lists {
			// Cut off to bytes, a sample below 0 is the same as that plus 65536.
			v := l[place]
			out = append(out, byte(v), byte(v>>8))
		}
	}
	return sums.SumOn(sum, string(out))
}
