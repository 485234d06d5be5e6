// Package subframe lays the samples of one channel of a block down as bits,
// and reads them back.
package subframe

import "reel/api"

// How many bits the fields of a subframe have.
const (
	kindBits      = 4
	shiftBits     = 4
	weightBits    = 6
	cutBits       = 2
	parameterBits = 4
)

const (
	leaningOrder = 2
	leaningScale = 3 // a and b count eighths
	leastWeight  = -32
	mostWeight   = 31
)

var fixedWeights = [api.MaxOrder + 1][api.MaxOrder]int{
	{},
	{1},
	{2, -1},
	{3, -3, 1},
	{4, -6, 4, -1},
}

// guesser makes the guess for a short sample of those ahead of it.
type guesser struct {
	order   int
	weights [api.MaxOrder]int // of the sample before, of the one before that, and so on
	scale   int               // the weighted sum is divided by 2^scale
}

// fixed is the guesser of the kinds from Guessed up to the one ahead of Leaning.
func fixed(kind int) guesser {
	order := kind - api.Guessed
	return guesser{order: order, weights: fixedWeights[order]}
}

func leaning(a, b int) guesser {
	return guesser{order: leaningOrder, weights: [api.MaxOrder]int{a, b}, scale: leaningScale}
}

// guess is made of the samples ahead, which are at least as many as the order.
func (g guesser) guess(ahead []int) int {
	sum := 0
	for i := range g.order {
		sum += g.weights[i] * ahead[len(ahead)-1-i]
	}
	// A shift, not a division: it rounds down below 0 too.
	return sum >> g.scale
}

// orderOf is how many short samples stand ahead of the rests in a kind that has rests.
func orderOf(kind int) int {
	if kind == api.Leaning {
		return leaningOrder
	}
	return kind - api.Guessed
}

// partSize is how many places each part has if n places are cut so, if they may be.
func partSize(n, order, cut int) (int, bool) {
	size := n >> cut
	return size, size<<cut == n && size > order
}
