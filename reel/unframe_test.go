package reel

import (
	"math"
	"slices"
	"strings"
	"testing"

	"reel/api"
)

func refusesFrame(t *testing.T, why string, c api.Config, number int, s string) {
	t.Helper()
	if l, n, e := Unframe(c, number, s); len(l) != 0 || n != 0 || e != api.ErrFrame {
		t.Errorf("P8: %s: Unframe(%+v, %d, %v) = %v, %d, %d, want ErrFrame", why, c, number, brief(s), l, n, e)
	}
}

// loose is a subframe of samples of w bits that Code would hardly make: of any
// kind and cut, with any shift and parameters that may be.
func loose(r *ruler, w int, l []int) string {
	shift := 0
	for shift < w-1 && r.below(3) > 0 && !slices.ContainsFunc(l, func(v int) bool { return v%(2<<shift) != 0 }) {
		shift++
	}
	short := make([]int, len(l))
	for i, v := range l {
		short[i] = v / (1 << shift)
	}
	kind, cut := 2+r.below(6), r.below(4)
	if !cutMay(len(l), orderByKind(kind), cut) || r.below(8) == 0 {
		return inBits(1, 4) + inBits(shift, 4) + bodyOf(1, w-shift, short)
	}
	return told(r, kind, shift, cut, r.below(64)-32, r.below(64)-32, w, short)
}

func anySamples(r *ruler, w, n int) []int {
	l := make([]int, n)
	for i := range l {
		l[i] = r.below(1<<w) - 1<<(w-1)
	}
	return l
}

func TestUnframeOfAnyPair(t *testing.T) {
	r := ruler(10)
	for round := range 800 {
		mode, depth, n := round%4, 4+r.below(4), 1+r.below(32)
		c := configOf(2, depth, n+r.below(33-n))
		block := [][]int{anySamples(&r, depth, n), anySamples(&r, depth, n)}
		lists, widths := toldBy(mode, depth, block[0], block[1])
		number := r.below(65536)
		bits := loose(&r, widths[0], lists[0]) + loose(&r, widths[1], lists[1])
		readsFrame(t, c, number, framed(number, n, mode, packed(bits)), block)
	}
}

func TestUnframeOfAnyChannels(t *testing.T) {
	r := ruler(11)
	for round := range 800 {
		channels, depth, n := []int{1, 3, 4}[round%3], 4+r.below(4), 1+r.below(32)
		bits, block := "", make([][]int, channels)
		for i := range block {
			block[i] = anySamples(&r, depth, n)
			bits += loose(&r, depth, block[i])
		}
		number := r.below(65536)
		readsFrame(t, configOf(channels, depth, 32), number, framed(number, n, 0, packed(bits)), block)
	}
}

// Two samples of one bit more than Depth can tell L and R that are no samples.
func TestUnframeRefusesPairsThatAreNoSamples(t *testing.T) {
	c := configOf(2, 4, 2)
	sample := func(v int) bool { return v >= -8 && v <= 7 }
	for mode := 1; mode <= 3; mode++ {
		read := 0
		for whole := -8; whole <= 7; whole++ {
			for s := -16; s <= 15; s++ {
				var l, r int
				first, second := inBits(whole, 4), inBits(s, 5)
				switch mode {
				case 1:
					l, r = whole, whole-s
				case 2:
					l, r = s+whole, whole
					first, second = second, first
				case 3:
					for l = -40; (2*l-s-(((2*l-s)%2)+2)%2)/2 != whole; l++ {
					}
					r = l - s
				}
				bits := "00000000" + first + "00000000" + second
				f := framed(9, 2, mode, packed(bits))
				if sample(l) && sample(r) {
					readsFrame(t, c, 9, f, [][]int{{l, l}, {r, r}})
					read++
				} else {
					refusesFrame(t, "no samples", c, 9, f)
				}
			}
		}
		if read != 256 {
			t.Errorf("mode %d tells %d pairs of samples, want 256", mode, read)
		}
	}
	// One place alone may be wrong too, the first or the last.
	for _, l := range []string{"0111" + "0000", "0000" + "0111"} {
		s := "11111" + "11111"
		refusesFrame(t, "one place", c, 9, framed(9, 2, 1, packed("00010000"+l+"00010000"+s)))
		readsFrame(t, c, 9, framed(9, 2, 1, packed("00010000"+"00000110"+"00010000"+s)), [][]int{{0, 6}, {1, 7}})
	}
}

func TestUnframeRefusesWrongHeads(t *testing.T) {
	for _, c := range []api.Config{configOf(1, 4, 2), configOf(2, 4, 2), configOf(3, 4, 2), configOf(4, 4, 2)} {
		body := packed(strings.Repeat("000000000001", c.Channels))
		right := framed(513, 2, 0, body)
		readsFrame(t, c, 513, right, slices.Repeat([][]int{{1, 1}}, c.Channels))
		for mode := 1; mode < 256; mode++ {
			if c.Channels != 2 || mode > 3 {
				refusesFrame(t, "a wrong mode", c, 513, framed(513, 2, mode, body))
			}
		}
		for n := 3; n <= 256; n++ {
			refusesFrame(t, "too many samples", c, 513, framed(513, n, 0, body))
		}
		for _, number := range []int{0, 1, 2, 512, 514, 258, 769, 257, 65535} {
			refusesFrame(t, "a wrong number", c, number, right)
			refusesFrame(t, "a wrong number", c, 513, framed(number, 2, 0, body))
		}
		for mark := range 256 {
			if mark != api.Mark {
				refusesFrame(t, "a wrong mark", c, 513, withSixteen(withEight(laidDown(mark)+right[1:7])+body))
			}
		}
		for eight := range 256 {
			if eight != int(right[7]) {
				refusesFrame(t, "a wrong Eight", c, 513, withSixteen(right[:7]+laidDown(eight)+body))
			}
		}
	}
}

func TestUnframeRefusesWrongLengths(t *testing.T) {
	c, body := configOf(1, 4, 2), packed("000000000001")
	right := framed(0, 2, 0, body)
	for length := range 40 {
		head := withEight(laidDown(165, 0, 0, 0, length, 1, 0))
		if length == len(right) {
			continue
		}
		refusesFrame(t, "a wrong length", c, 0, withSixteen(head+body))
		refusesFrame(t, "a wrong length", c, 0, withSixteen(head+body)+strings.Repeat("\x00", 100))
		// Sixteen stands where the length says.
		if length >= 8 {
			refusesFrame(t, "a wrong length", c, 0, withSixteen((head + body + strings.Repeat("\x00", 100))[:length])+right)
		}
		if length >= 10 {
			refusesFrame(t, "a wrong length", c, 0, withSixteen((head + body + strings.Repeat("\x00", 100))[:length-2]))
		}
	}
	for _, high := range []int{1, 2, 35, 128, 255} {
		refusesFrame(t, "a wrong length", c, 0, withSixteen(withEight(laidDown(165, 0, 0, high, 12, 1, 0))+body))
		refusesFrame(t, "a wrong length", c, 0, withSixteen(withEight(laidDown(165, 0, 0, high, 12, 1, 0))+body)+strings.Repeat("\x00", 8900))
	}
}

// Eight, which ends the head, may by chance be the beginning or the end of
// Sixteen: but what has no room for both is no frame.
func TestUnframeRefusesHeadsThatSealThemselves(t *testing.T) {
	c := configOf(2, 4, 32)
	found := [2]int{}
	for number := range 65536 {
		for short := range found {
			s := withEight(laidDown(165, number/256, number%256, 0, 8+short, number%32, number%4))
			if short == 1 {
				s += laidDown(Sixteen(s[:7]) % 256)
			}
			at := len(s) - 2
			if Sixteen(s[:at]) == 256*int(s[at])+int(s[at+1]) {
				found[short]++
				refusesFrame(t, "a head alone", c, number, s)
				refusesFrame(t, "a head alone", c, number, s+strings.Repeat("\x00", 20))
			}
		}
	}
	if slices.Contains(found[:], 0) {
		t.Errorf("no such heads were found: %v", found)
	}
}

func TestUnframeRefusesWrongSixteens(t *testing.T) {
	c, right := configOf(1, 4, 2), framed(0, 2, 0, packed("000000000001"))
	at := len(right) - 2
	for v := range 65536 {
		s := right[:at] + laidDown(v/256, v%256)
		if s != right {
			refusesFrame(t, "a wrong Sixteen", c, 0, s)
		}
	}
}

// Subframes of each length leave from no 0 up to seven 0s.
func TestUnframeOfWhatFillsUp(t *testing.T) {
	r := ruler(12)
	var fills [8]int
	for round := range 200 {
		n := 1 + round%8
		l := anySamples(&r, 5, n)
		bits := inBits(1, 4) + inBits(0, 4) + bodyOf(1, 5, l)
		c := configOf(1, 5, 8)
		body := packed(bits)
		fill := 8*len(body) - len(bits)
		fills[fill]++
		readsFrame(t, c, 4, framed(4, n, 0, body), [][]int{l})
		refusesFrame(t, "a byte of 0s more", c, 4, framed(4, n, 0, body+"\x00"))
		refusesFrame(t, "two bytes of 0s more", c, 4, framed(4, n, 0, body+"\x00\x00"))
		refusesFrame(t, "a byte more", c, 4, framed(4, n, 0, body+"\x01"))
		for i := range fill {
			turned := body[:len(body)-1] + laidDown(int(body[len(body)-1])^1<<i)
			refusesFrame(t, "a 1 that fills up", c, 4, framed(4, n, 0, turned))
		}
		// A subframe may not reach into Sixteen.
		refusesFrame(t, "a byte less", c, 4, framed(4, n, 0, body[:len(body)-1]))
	}
	if slices.Contains(fills[:], 0) {
		t.Errorf("some count of 0s is untried: %v", fills)
	}
}

func TestUnframeRefusesWrongSubframes(t *testing.T) {
	const one, three = "000000000001", "000000000011"
	c := configOf(3, 4, 2)
	readsFrame(t, c, 0, framed(0, 2, 0, packed(one+three+one)), [][]int{{1, 1}, {3, 3}, {1, 1}})
	for why, bits := range map[string]string{
		"no kind":      "1000" + "0000" + "0001",
		"no shift":     "0000" + "0100" + "0001",
		"no cut":       "0010" + "0000" + "10" + "0000" + "1" + "0000" + "1" + "0000" + "0000",
		"no parameter": "0010" + "0000" + "00" + "1111" + "1" + "1",
		"no sample":    "0010" + "0000" + "00" + "0000" + strings.Repeat("0", 16) + "1" + "1",
		"above order":  "0111" + "0000" + "0001" + "0001" + "000000" + "000000" + "00" + "0000",
	} {
		refusesFrame(t, why+" in the first", c, 0, framed(0, 2, 0, packed(bits+one+three)))
		refusesFrame(t, why+" in the second", c, 0, framed(0, 2, 0, packed(one+bits+three)))
		refusesFrame(t, why+" in the last", c, 0, framed(0, 2, 0, packed(one+three+bits)))
	}
	for channels := 1; channels <= 4; channels++ {
		for told := 0; told <= 6; told++ {
			f := framed(0, 2, 0, packed(strings.Repeat(one, told)))
			if told == channels {
				readsFrame(t, configOf(channels, 4, 2), 0, f, slices.Repeat([][]int{{1, 1}}, channels))
			} else {
				refusesFrame(t, "a wrong count of subframes", configOf(channels, 4, 2), 0, f)
			}
		}
	}
}

func TestUnframeRefusesPieces(t *testing.T) {
	r := ruler(13)
	for channels := 1; channels <= 4; channels++ {
		block := make([][]int, channels)
		for i := range block {
			block[i] = anySamples(&r, 6, 7)
		}
		c := configOf(channels, 6, 7)
		s, _ := Frame(c, 77, block)
		for n := range len(s) {
			refusesFrame(t, "a piece", c, 77, s[:n])
			refusesFrame(t, "the end alone", c, 77, s[n+1:])
		}
		for i := range len(s) {
			for v := range 256 {
				if v != int(s[i]) {
					refusesFrame(t, "a byte turned", c, 77, s[:i]+laidDown(v)+s[i+1:])
				}
			}
		}
	}
}

// unframed reads a frame's body by Read, which has tests of its own; the modes
// are turned round by trying which L and R they would tell so.
func unframed(c api.Config, n, mode int, body string) ([][]int, bool) {
	bits, lists := bitsOf(body), [][]int{}
	widths := [4]int{c.Depth, c.Depth, c.Depth, c.Depth}
	if c.Channels == 2 {
		_, both := toldBy(mode, c.Depth, nil, nil)
		widths[0], widths[1] = both[0], both[1]
	}
	for i := range c.Channels {
		l, taken, e := Read(widths[i], n, bits)
		if e != api.OK {
			return nil, false
		}
		lists, bits = append(lists, l), bits[taken:]
	}
	if len(bits) > 7 || strings.Contains(bits, "1") {
		return nil, false
	}
	if c.Channels != 2 || mode == 0 {
		return lists, true
	}
	half := 1 << (c.Depth - 1)
	out := [][]int{make([]int, n), make([]int, n)}
	for i := range n {
		found := false
		for l := -half; l < half && !found; l++ {
			for r := -half; r < half && !found; r++ {
				both, _ := toldBy(mode, c.Depth, []int{l}, []int{r})
				if both[0][0] == lists[0][i] && both[1][0] == lists[1][i] {
					out[0][i], out[1][i], found = l, r, true
				}
			}
		}
		if !found {
			return nil, false
		}
	}
	return out, true
}

func TestUnframeOfAnyBody(t *testing.T) {
	r := ruler(15)
	read, refused := 0, 0
	for round := range 4000 {
		c, n := configOf(1+round%4, 4+r.below(2), 1+r.below(8)), 1+r.below(4)
		bits, mode := "", 0
		if c.Channels == 2 {
			mode = r.below(4)
		}
		for range c.Channels {
			// A channel may hold what has one bit more, and be read as such.
			bits += loose(&r, c.Depth+r.below(2), anySamples(&r, 4, n))
		}
		body := packed(bits)
		for range r.below(3) {
			at := r.below(len(body))
			body = body[:at] + laidDown(int(body[at])^1<<r.below(8)) + body[at+1:]
		}
		want, ok := unframed(c, n, mode, body)
		s := framed(round, n, mode, body)
		if !ok || n > c.Block {
			refusesFrame(t, "any body", c, round, s)
			refused++
		} else {
			readsFrame(t, c, round, s, want)
			read++
		}
	}
	if read < 500 || refused < 500 {
		t.Errorf("%d bodies were read, %d refused", read, refused)
	}
}

// farBits is a subframe of five samples of 12 bits that takes thousands of bits:
// the first four guess, for the fifth, what lies far from any sample.
func farBits(fifth int) (string, []int) {
	const guess = 4*-2048 - 6*2047 + 4*-2048 - 2047
	l := []int{2047, -2048, 2047, -2048, fifth}
	return inBits(6, 4) + inBits(0, 4) + bodyOf(1, 12, l[:4]) + inBits(0, 2) + inBits(0, 4) + riceCode(fifth-guess, 0), l
}

func TestUnframeOfLongFrames(t *testing.T) {
	for _, fifth := range []int{-2048, -1, 0, 2047} {
		bits, l := farBits(fifth)
		readsFrame(t, configOf(1, 12, 5), 3, framed(3, 5, 0, packed(bits)), [][]int{l})
	}
}

func TestUnframeOfTheLongestFrame(t *testing.T) {
	c := configOf(2, 12, 5)
	bits, l := farBits(2047)
	r := []int{2000, 1159, 0, 0, 0}
	bits += inBits(2, 4) + inBits(0, 4) + inBits(0, 2) + partOf(2, 0, 0, r, 0, 5, 0)
	s := framed(8, 5, 0, packed(bits))
	if len(s) != api.MaxStream {
		t.Fatalf("the frame has %d bytes", len(s))
	}
	readsFrame(t, c, 8, s, [][]int{l, r})
	refusesFrame(t, "a piece of the longest", c, 8, s[:len(s)-1])
	if got, n, e := Unframe(c, 8, s+"\x00"); len(got) != 0 || n != 0 || e != api.ErrLong {
		t.Errorf("P8: the longest frame and a byte: %v, %d, %d", got, n, e)
	}
}

func TestUnframeErrorsInTheirOrder(t *testing.T) {
	bad := rightConfig()
	bad.Seek = -1
	s := laidDown(165, 0, 1, 0, 12, 0, 0, 25, 0, 16, 217, 212)
	long := s + strings.Repeat("\x00", api.MaxStream+1-len(s))
	for i, f := range []struct {
		c      api.Config
		number int
		s      string
		want   api.Errno
	}{
		{api.Config{}, -1, long, api.ErrConfig}, {bad, 65536, "", api.ErrConfig}, {bad, 1, s, api.ErrConfig},
		{rightConfig(), -1, long, api.ErrArg}, {rightConfig(), 65536, "", api.ErrArg}, {rightConfig(), math.MinInt, s, api.ErrArg}, {rightConfig(), math.MaxInt, s, api.ErrArg}, {rightConfig(), 65537, s, api.ErrArg},
		{rightConfig(), 1, long, api.ErrLong}, {rightConfig(), 0, long, api.ErrLong}, {rightConfig(), 1, strings.Repeat(s, 5000), api.ErrLong},
		{rightConfig(), 0, long[:api.MaxStream], api.ErrFrame}, {rightConfig(), 1, "", api.ErrFrame}, {rightConfig(), 1, "\xa5", api.ErrFrame},
		{rightConfig(), 1, "x" + s, api.ErrFrame}, {rightConfig(), 1, s[1:], api.ErrFrame},
	} {
		if l, n, e := Unframe(f.c, f.number, f.s); len(l) != 0 || n != 0 || e != f.want {
			t.Errorf("P8: call %d: %v, %d, %d, want %d", i, l, n, e, f.want)
		}
	}
	if l, n, e := Unframe(rightConfig(), 1, long[:api.MaxStream]); !sameLists(l, [][]int{{1}}) || n != 12 || e != api.OK {
		t.Errorf("P8: a frame in %d bytes: %v, %d, %d", api.MaxStream, l, n, e)
	}
}
