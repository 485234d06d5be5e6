package reel

import (
	"math/big"
	"strconv"
	"strings"
)

// What stands here follows DOC.md word by word, with texts and big numbers, and
// takes nothing from the program: the calls are held against it.

// ruler is a source of numbers that gives the same ones in every run.
type ruler uint64

func (r *ruler) below(n int) int {
	*r = *r*6364136223846793005 + 1442695040888963407
	return int(uint64(*r) >> 33 % uint64(n))
}

// inBits is a number in k bits: with 2^k added to it there are k digits behind a 1.
func inBits(v, k int) string {
	if v < 0 {
		v += 1 << k
	}
	return strconv.FormatInt(int64(v+1<<k), 2)[1:]
}

// bitsOf are the bits of bytes.
func bitsOf(s string) string {
	var out strings.Builder
	for i := 0; i < len(s); i++ {
		out.WriteString(inBits(int(s[i]), 8))
	}
	return out.String()
}

// divided is Eight or Sixteen, by the pattern whose bits are turned.
func divided(s, pattern string) int {
	size := len(pattern) - 1
	bits := []byte(bitsOf(s) + strings.Repeat("0", size))
	for i := 0; i < len(bits)-size; i++ {
		if bits[i] != '1' {
			continue
		}
		for j := range pattern {
			if pattern[j] == '1' {
				bits[i+j] ^= '0' ^ '1'
			}
		}
	}
	v := 0
	for _, b := range bits[len(bits)-size:] {
		v = 2*v + int(b-'0')
	}
	return v
}

// riceCode is the Rice code of v by k.
func riceCode(v, k int) string {
	fold := 2 * v
	if v < 0 {
		fold = -2*v - 1
	}
	return strings.Repeat("0", fold/(1<<k)) + "1" + inBits(fold%(1<<k), k)
}

// eighths is v / 8, rounded down.
func eighths(v int) int {
	return (v - ((v%8)+8)%8) / 8
}

// guessOf is the guess for the short sample at place i, by kind.
func guessOf(kind, a, b int, l []int, i int) int {
	at := func(back int) int { return l[i-back] }
	switch kind {
	case 2:
		return 0
	case 3:
		return at(1)
	case 4:
		return 2*at(1) - at(2)
	case 5:
		return 3*at(1) - 3*at(2) + at(3)
	case 6:
		return 4*at(1) - 6*at(2) + 4*at(3) - at(4)
	}
	return eighths(a*at(1) + b*at(2))
}

func orderByKind(kind int) int {
	if kind == 7 {
		return 2
	}
	return kind - 2
}

// lagged is r0, r1 or r2.
func lagged(l []int, lag int) *big.Int {
	sum := new(big.Int)
	for i := lag; i < len(l); i++ {
		sum.Add(sum, big.NewInt(int64(l[i]*l[i-lag])))
	}
	return sum
}

// leanings are a and b of kind 7, if D is above 0.
func leanings(l []int) (int, int, bool) {
	r0, r1, r2 := lagged(l, 0), lagged(l, 1), lagged(l, 2)
	mul := func(x, y *big.Int) *big.Int { return new(big.Int).Mul(x, y) }
	sub := func(x, y *big.Int) *big.Int { return new(big.Int).Sub(x, y) }
	d := sub(mul(r0, r0), mul(r1, r1))
	if d.Sign() <= 0 {
		return 0, 0, false
	}
	bounded := func(x *big.Int) int {
		// Div rounds down, for d is above 0.
		v := new(big.Int).Div(mul(big.NewInt(8), x), d)
		if v.Cmp(big.NewInt(-32)) < 0 {
			return -32
		}
		if v.Cmp(big.NewInt(31)) > 0 {
			return 31
		}
		return int(v.Int64())
	}
	return bounded(mul(r1, sub(r0, r2))), bounded(sub(mul(r0, r2), mul(r1, r1))), true
}

// cutMay tells whether n places may be cut so.
func cutMay(n, order, cut int) bool {
	return n%(1<<cut) == 0 && n/(1<<cut) > order
}

// partOf is the text of a part, its parameter too.
func partOf(kind, a, b int, l []int, from, to, k int) string {
	s := inBits(k, 4)
	for i := max(from, orderByKind(kind)); i < to; i++ {
		s += riceCode(l[i]-guessOf(kind, a, b, l, i), k)
	}
	return s
}

// shortestPart tries all parameters. A rest that takes more than 1000 bits by one
// makes no shortest part, for by 14 all of a part take at most 32 times 23.
func shortestPart(kind, a, b int, l []int, from, to int) string {
	best := ""
	for k := 0; k <= 14; k++ {
		long := false
		for i := max(from, orderByKind(kind)); i < to; i++ {
			v := l[i] - guessOf(kind, a, b, l, i)
			long = long || max(v, -v)>>k > 500
		}
		if long {
			continue
		}
		if s := partOf(kind, a, b, l, from, to, k); best == "" || len(s) < len(best) {
			best = s
		}
	}
	return best
}

// bodyOf is the shortest body of the kind, "" if the short samples can't be told by it.
func bodyOf(kind, w int, l []int) string {
	s := ""
	switch kind {
	case 0:
		for _, v := range l {
			if v != l[0] {
				return ""
			}
		}
		return inBits(l[0], w)
	case 1:
		for _, v := range l {
			s += inBits(v, w)
		}
		return s
	}
	n, order, a, b, ok := len(l), orderByKind(kind), 0, 0, true
	if n <= order {
		return ""
	}
	for _, v := range l[:order] {
		s += inBits(v, w)
	}
	if kind == 7 {
		if a, b, ok = leanings(l); !ok {
			return ""
		}
		s += inBits(a, 6) + inBits(b, 6)
	}
	best := ""
	for cut := 0; cut <= 3; cut++ {
		if !cutMay(n, order, cut) {
			continue
		}
		rests, size := inBits(cut, 2), n>>cut
		for from := 0; from < n; from += size {
			rests += shortestPart(kind, a, b, l, from, from+size)
		}
		if best == "" || len(rests) < len(best) {
			best = rests
		}
	}
	return s + best
}

// codeOf is the subframe that Code must make.
func codeOf(w int, l []int) string {
	shift, zero := 0, true
	for _, v := range l {
		zero = zero && v == 0
	}
	for s := 1; s < 20 && !zero; s++ {
		all := true
		for _, v := range l {
			all = all && v%(1<<s) == 0
		}
		if all {
			shift = s
		}
	}
	short := make([]int, len(l))
	for i, v := range l {
		short[i] = v / (1 << shift)
	}
	best := ""
	for kind := 0; kind <= 7; kind++ {
		body := bodyOf(kind, w-shift, short)
		if body == "" {
			continue
		}
		if s := inBits(kind, 4) + inBits(shift, 4) + body; best == "" || len(s) < len(best) {
			best = s
		}
	}
	return best
}

// laidDown are bytes, each of which is a number below 256.
func laidDown(l ...int) string {
	out := make([]byte, len(l))
	for i, v := range l {
		out[i] = byte(v)
	}
	return string(out)
}

func withEight(s string) string {
	return s + laidDown(divided(s, "100000111"))
}

func withSixteen(s string) string {
	v := divided(s, "11000000000000101")
	return s + laidDown(v/256, v%256)
}

// packed are the bytes of bits, with as many 0s as fill the last one up.
func packed(bits string) string {
	for len(bits)%8 != 0 {
		bits += "0"
	}
	out := make([]byte, 0, len(bits)/8)
	for i := 0; i < len(bits); i += 8 {
		v, _ := strconv.ParseUint(bits[i:i+8], 2, 8)
		out = append(out, byte(v))
	}
	return string(out)
}

// framed is what has the outer shape of a frame, whatever its subframes' bytes are.
func framed(number, n, mode int, body string) string {
	length := 8 + len(body) + 2
	return withSixteen(withEight(laidDown(165, number/256, number%256, length/256, length%256, n-1, mode)) + body)
}

// toldBy are the samples that the two subframes tell in a mode, and their widths.
func toldBy(mode, depth int, l, r []int) ([2][]int, [2]int) {
	s, m := make([]int, len(l)), make([]int, len(l))
	for i := range l {
		s[i] = l[i] - r[i]
		m[i] = (l[i] + r[i] - ((l[i]+r[i])%2+2)%2) / 2
	}
	switch mode {
	case 1:
		return [2][]int{l, s}, [2]int{depth, depth + 1}
	case 2:
		return [2][]int{s, r}, [2]int{depth + 1, depth}
	case 3:
		return [2][]int{m, s}, [2]int{depth, depth + 1}
	}
	return [2][]int{l, r}, [2]int{depth, depth}
}

// pairBits are the two subframes' bits of each mode.
func pairBits(depth int, l, r []int) [4]string {
	both, widths := toldBy(3, depth, l, r)
	ofL, ofR := codeOf(depth, l), codeOf(depth, r)
	ofM, ofS := codeOf(widths[0], both[0]), codeOf(widths[1], both[1])
	return [4]string{ofL + ofR, ofL + ofS, ofS + ofR, ofM + ofS}
}

// frameOf is the frame that Frame must make.
func frameOf(depth, number int, block [][]int) string {
	mode, bits := 0, ""
	if len(block) == 2 {
		all := pairBits(depth, block[0], block[1])
		for m := range all {
			if len(all[m]) < len(all[mode]) {
				mode = m
			}
		}
		bits = all[mode]
	} else {
		for _, l := range block {
			bits += codeOf(depth, l)
		}
	}
	return framed(number, len(block[0]), mode, packed(bits))
}
