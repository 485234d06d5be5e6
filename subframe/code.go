package subframe

import (
	"math/bits"

	"reel/api"
	"reel/bittext"
)

// parts are the rests of a subframe, as they are cut.
type parts struct {
	cut        int
	parameters [1 << api.MaxCut]int
	length     int // of the rests in bits
}

// body is one way to tell the short samples.
type body struct {
	kind   int
	by     guesser // in the kinds that have rests
	parts  parts   // in the kinds that have rests
	length int     // in bits
}

// Code makes the shortest subframe of samples of width bits, of which there is at least one.
func Code(width int, samples []int) string {
	shift := commonShift(samples)
	short := shorten(samples, shift)
	width -= shift
	return lay(width, shift, short, shortestBody(width, short))
}

// commonShift is the greatest by which all samples can be shortened.
func commonShift(samples []int) int {
	all := 0
	for _, v := range samples {
		all |= v
	}
	if all == 0 {
		return 0
	}
	return bits.TrailingZeros(uint(all))
}

func shorten(samples []int, shift int) []int {
	short := make([]int, len(samples))
	for i, v := range samples {
		short[i] = v >> shift
	}
	return short
}

// shortestBody takes of several that are equally short the one of the least kind.
func shortestBody(width int, short []int) body {
	best := body{kind: api.Plain, length: width * len(short)}
	if allSame(short) && width <= best.length {
		best = body{kind: api.Still, length: width}
	}
	for kind := api.Guessed; kind <= api.Leaning; kind++ {
		tried, ok := guessedBody(kind, width, short)
		if ok && tried.length < best.length {
			best = tried
		}
	}
	return best
}

func allSame(l []int) bool {
	for _, v := range l {
		if v != l[0] {
			return false
		}
	}
	return true
}

// guessedBody tells the short samples by a kind that has rests, if that can be.
func guessedBody(kind, width int, short []int) (body, bool) {
	order := orderOf(kind)
	if len(short) <= order {
		return body{}, false
	}
	length := order * width
	var by guesser
	if kind == api.Leaning {
		a, b, ok := weightsFor(short)
		if !ok {
			return body{}, false
		}
		by = leaning(a, b)
		length += 2 * weightBits
	} else {
		by = fixed(kind)
	}
	found := shortestParts(order, foldedRests(by, short))
	return body{kind: kind, by: by, parts: found, length: length + found.length}, true
}

// weightsFor makes a and b of the kind Leaning; there are none if D is 0.
// No product overflows: with MaxBlock samples of MaxWidth bits r0 is at most 2^29,
// r1 and r2 lie between -r0 and r0, so the greatest product is at most 2^62.
func weightsFor(short []int) (int, int, bool) {
	r0, r1, r2 := laggedSum(short, 0), laggedSum(short, 1), laggedSum(short, 2)
	d := r0*r0 - r1*r1
	if d <= 0 {
		return 0, 0, false
	}
	a := weight(8*r1*(r0-r2), d)
	b := weight(8*(r0*r2-r1*r1), d)
	return a, b, true
}

// laggedSum adds up each sample times the one lag places before it, where there is one.
func laggedSum(l []int, lag int) int {
	sum := 0
	for i := lag; i < len(l); i++ {
		sum += l[i] * l[i-lag]
	}
	return sum
}

func weight(v, d int) int {
	return min(max(divideDown(v, d), leastWeight), mostWeight)
}

// divideDown divides by d, which is above 0, and rounds down, where Go rounds towards 0.
func divideDown(v, d int) int {
	quotient := v / d
	if v%d < 0 {
		quotient--
	}
	return quotient
}

// foldedRests has an element for each place; those of the first places, which
// have no rest, are 0.
func foldedRests(by guesser, short []int) []int {
	folds := make([]int, len(short))
	for i := by.order; i < len(short); i++ {
		folds[i] = bittext.Fold(short[i] - by.guess(short[:i]))
	}
	return folds
}

// shortestParts searches for the cut with the fewest bits, of several such the least.
// There is always one: cut 0 may be wherever there are more places than the order.
func shortestParts(order int, folds []int) parts {
	best, found := parts{}, false
cuts:
	for cut := 0; cut <= api.MaxCut; cut++ {
		size, ok := partSize(len(folds), order, cut)
		if !ok {
			break cuts // a greater cut makes smaller parts, and may not be either
		}
		tried := parts{cut: cut, length: cutBits}
		for i := range 1 << cut {
			from := i * size
			k, length := shortestParameter(folds[max(from, order) : from+size])
			tried.parameters[i] = k
			tried.length += parameterBits + length
			if found && tried.length >= best.length {
				continue cuts
			}
		}
		best, found = tried, true
	}
	return best
}

// shortestParameter is the parameter of a part with the fewest bits, of several
// such the least, and how many bits the Rice codes have by it.
func shortestParameter(folds []int) (int, int) {
	best, least := 0, partLength(folds, 0)
	for k := 1; k <= api.MaxRice; k++ {
		if length := partLength(folds, k); length < least {
			best, least = k, length
		}
	}
	return best, least
}

func partLength(folds []int, k int) int {
	length := 0
	for _, f := range folds {
		length += bittext.RiceLength(f, k)
	}
	return length
}

// lay writes the subframe down.
func lay(width, shift int, short []int, told body) string {
	var out bittext.Writer
	out.Number(told.kind, kindBits)
	out.Number(shift, shiftBits)
	switch told.kind {
	case api.Still:
		out.Number(short[0], width)
	case api.Plain:
		out.Numbers(short, width)
	default:
		layGuessed(&out, width, short, told)
	}
	return out.Text()
}

func layGuessed(out *bittext.Writer, width int, short []int, told body) {
	order := told.by.order
	out.Numbers(short[:order], width)
	if told.kind == api.Leaning {
		out.Numbers(told.by.weights[:leaningOrder], weightBits)
	}
	out.Number(told.parts.cut, cutBits)
	size := len(short) >> told.parts.cut
	for i := range 1 << told.parts.cut {
		k := told.parts.parameters[i]
		out.Number(k, parameterBits)
		for place := max(i*size, order); place < (i+1)*size; place++ {
			out.Rice(short[place]-told.by.guess(short[:place]), k)
		}
	}
}
