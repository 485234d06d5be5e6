package subframe

import (
	"reel/api"
	"reel/bittext"
	"reel/limits"
)

// Read reads the subframe of n samples of width bits with which the bits begin:
// its samples, and how many bits it has; false, if they begin with none.
func Read(width, n int, text string) ([]int, int, bool) {
	in := bittext.NewReader(text)
	kind, ok := in.Number(kindBits)
	if !ok {
		return nil, 0, false
	}
	shift, ok := in.Number(shiftBits)
	if !ok || shift >= width {
		return nil, 0, false
	}
	samples, ok := readBody(in, kind, width-shift, n)
	if !ok {
		return nil, 0, false
	}
	for i := range samples {
		samples[i] <<= shift
	}
	return samples, in.Taken(), true
}

// readBody reads the short samples, told by a kind.
func readBody(in *bittext.Reader, kind, width, n int) ([]int, bool) {
	switch {
	case kind == api.Still:
		return readStill(in, width, n)
	case kind == api.Plain:
		return readPlain(in, width, n, n)
	case kind <= api.Leaning:
		return readGuessed(in, kind, width, n)
	}
	return nil, false
}

func readStill(in *bittext.Reader, width, n int) ([]int, bool) {
	v, ok := in.Signed(width)
	if !ok {
		return nil, false
	}
	short := make([]int, n)
	for i := range short {
		short[i] = v
	}
	return short, true
}

// readPlain reads the first short samples, into a list with room for n.
func readPlain(in *bittext.Reader, width, first, n int) ([]int, bool) {
	short := make([]int, 0, n)
	for range first {
		v, ok := in.Signed(width)
		if !ok {
			return nil, false
		}
		short = append(short, v)
	}
	return short, true
}

func readGuessed(in *bittext.Reader, kind, width, n int) ([]int, bool) {
	order := orderOf(kind)
	if n <= order {
		return nil, false
	}
	first, ok := readPlain(in, width, order, n)
	if !ok {
		return nil, false
	}
	by, ok := readGuesser(in, kind)
	if !ok {
		return nil, false
	}
	return readRests(in, by, width, first, n)
}

func readGuesser(in *bittext.Reader, kind int) (guesser, bool) {
	if kind != api.Leaning {
		return fixed(kind), true
	}
	a, ok := in.Signed(weightBits)
	if !ok {
		return guesser{}, false
	}
	b, ok := in.Signed(weightBits)
	return leaning(a, b), ok
}

// readRests lays the short samples that the rests tell behind the first ones.
func readRests(in *bittext.Reader, by guesser, width int, short []int, n int) ([]int, bool) {
	cut, ok := in.Number(cutBits)
	if !ok {
		return nil, false
	}
	size, ok := partSize(n, by.order, cut)
	if !ok {
		return nil, false
	}
parts:
	for from := 0; from < n; from += size {
		k, ok := in.Number(parameterBits)
		if !ok || k > api.MaxRice {
			break parts
		}
		for place := max(from, by.order); place < from+size; place++ {
			rest, ok := in.Rice(k)
			v := by.guess(short) + rest
			if !ok || !limits.IsSample(width, v) {
				break parts
			}
			short = append(short, v)
		}
	}
	// Where the reading broke off, short samples are missing.
	return short, len(short) == n
}
