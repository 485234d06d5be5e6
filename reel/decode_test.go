package reel

import (
	"strings"
	"testing"

	"reel/api"
)

// decodes holds the error of Decode against the one that is wanted; with any
// error there is nothing else.
func decodes(t *testing.T, why, s string, want api.Errno) {
	t.Helper()
	info, sound, e := Decode(s)
	if e != want || e != api.OK && (info != api.Info{} || len(sound) != 0) {
		t.Errorf("P10: %s: Decode(%v) = %+v, %v, %d, want %d", why, brief(s), info, sound, e, want)
	}
}

// isNoHead holds all readings against bytes that begin with no head.
func isNoHead(t *testing.T, why, s string) {
	t.Helper()
	decodes(t, why, s, api.ErrHead)
	if info, sound, e := Salvage(s); info != (api.Info{}) || len(sound) != 0 || e != api.ErrHead {
		t.Errorf("P11: %s: Salvage(%v) = %+v, %v, %d, want ErrHead", why, brief(s), info, sound, e)
	}
	for _, at := range []int{-1, 0, 1000} {
		if sound, e := From(s, at); len(sound) != 0 || e != api.ErrHead {
			t.Errorf("P12: %s: From(%v, %d) = %v, %d, want ErrHead", why, brief(s), at, sound, e)
		}
	}
}

func TestDecodeOfTheExample(t *testing.T) {
	info, sound, e := Decode(exampleStream)
	if info != exampleInfo || !sameLists(sound, [][]int{{6, 4, 1}}) || e != api.OK {
		t.Errorf("P10: Decode of the example: %+v, %v, %d", info, sound, e)
	}
	decodes(t, "49 bytes", exampleStream[:49], api.ErrFrame)
	decodes(t, "unfinished", exampleBare+exampleFrames[0]+exampleFrames[1], api.ErrHead)
}

// Any frames are read, whether Frame would make them or not.
func TestReadingsOfAnyFrames(t *testing.T) {
	r := ruler(24)
	for range 400 {
		c := anyConfig(&r)
		sound := anySound(&r, c, r.below(40))
		frames := looseFrames(&r, c, sound)
		comesBack(t, c, sound, saidOf(c, sound, frames).laid()+strings.Join(frames, ""))
	}
}

// What begins no head: each field is tried at all numbers that may not stand there.
func TestHeadsThatAreNone(t *testing.T) {
	frames := exampleFrames[0] + exampleFrames[1]
	for _, f := range []struct {
		name        string
		at          func(h *said) *int
		least, most int
	}{
		{"channels", func(h *said) *int { return &h.channels }, 1, 4},
		{"depth", func(h *said) *int { return &h.depth }, 4, 12},
		{"block", func(h *said) *int { return &h.block }, 1, 32},
		{"finished", func(h *said) *int { return &h.finished }, 0, 1},
	} {
		for v := range 256 {
			if v >= f.least && v <= f.most {
				continue
			}
			for points := range 5 {
				h := exampleSaid()
				*f.at(&h), h.points = v, make([]int, points)
				isNoHead(t, f.name, h.laid()+frames)
				h = h.bare()
				*f.at(&h) = v
				isNoHead(t, "unfinished, "+f.name, h.laid()+frames)
			}
		}
	}
	for _, samples := range []int{301, 302, 511, 512, 65535} {
		for _, seek := range []int{0, 1, 7, 255} {
			h := said{finished: 1, channels: 1, depth: 4, block: 32, samples: samples, seek: seek}
			if seek > 0 {
				h.points = make([]int, ((samples+31)/32+seek-1)/seek)
			}
			isNoHead(t, "too many samples", h.laid())
			isNoHead(t, "too many samples", h.bare().laid())
			h.samples = 300
			if seek > 0 {
				h.points = h.points[:(10+seek-1)/seek]
			}
			decodes(t, "just enough samples", h.laid(), api.ErrFrame)
		}
	}
}

func TestHeadsWithoutTheirName(t *testing.T) {
	for _, whole := range []string{exampleStream, exampleBare + exampleFrames[0]} {
		for _, name := range []string{"rl", "LR", "RR", "LL", "R\x00", "\x00L", "Rl", "rL"} {
			isNoHead(t, "a wrong name", resealed(name+whole[2:], 2))
		}
		isNoHead(t, "a byte ahead", "R"+whole)
		isNoHead(t, "a byte less", whole[1:])
		for n := range 26 {
			isNoHead(t, "a piece", whole[:n])
		}
	}
	for n := range len(emptyStream) {
		isNoHead(t, "a piece", emptyStream[:n])
	}
}

func TestHeadsWithWrongChecks(t *testing.T) {
	for _, head := range []string{exampleHead, exampleBare} {
		for v := range 65536 {
			if s := head[:24] + two(v); s != head {
				isNoHead(t, "a wrong Sixteen", s)
			}
		}
		for v := range 256 {
			if v != int(head[19]) {
				isNoHead(t, "a wrong Eight", withSixteen(head[:19]+laidDown(v)+head[20:24]))
			}
		}
	}
}

// A head has a point for each block whose number is a multiple of Seek, and no other.
func TestHeadsWithWrongCountsOfPoints(t *testing.T) {
	for n := range 12 {
		for seek := range 6 {
			want := 0
			for k := 0; k < n; k++ {
				if seek > 0 && k%seek == 0 {
					want++
				}
			}
			for points := range 14 {
				h := said{finished: 1, channels: 1, depth: 4, block: 1, samples: n, seek: seek, sum: 1, points: make([]int, points)}
				e := api.ErrFrame
				if n == 0 {
					e = api.OK
				}
				if points == want {
					decodes(t, "as many points as should be", h.laid(), e)
				} else {
					// What stands behind is no Sixteen.
					isNoHead(t, "a wrong count of points", h.laid()+"\x01\x01\x01")
					isNoHead(t, "a wrong count of points", h.bare().laid()+strings.Repeat("\x01", 30))
				}
			}
		}
	}
}

// An unfinished head says nothing of the frames.
func TestUnfinishedHeadsThatSayMore(t *testing.T) {
	for _, v := range []int{1, 12, 256, 65535} {
		for i := range 5 {
			h := exampleSaid().bare()
			*[]*int{&h.shortest, &h.longest, &h.sum, &h.points[0], &h.points[1]}[i] = v
			isNoHead(t, "unfinished, and says more", h.laid()+exampleFrames[0])
		}
	}
	for _, sum := range []int{1, 65536, 1 << 24, 1<<32 - 1} {
		h := exampleSaid().bare()
		h.sum = sum
		isNoHead(t, "unfinished, with a sum", h.laid())
	}
	decodes(t, "unfinished", exampleSaid().bare().laid(), api.ErrHead)
}

func TestDecodeRefusesWrongFrames(t *testing.T) {
	first, second := exampleFrames[0], exampleFrames[1]
	third := frameOf(4, 2, [][]int{{1}})
	for why, behind := range map[string]string{
		"no frame": "", "the first alone": first, "the second alone": second, "swapped": second + first, "the first twice": first + first,
		"one too many": first + second + third, "the last twice": first + second + second, "a byte behind": first + second + "\x00", "a mark behind": first + second + "\xa5",
		"a byte between": first + "\x00" + second, "a byte ahead": "\x00" + first + second, "a byte less": first + second[:11], "from 1 on": frameOf(4, 1, [][]int{{6, 4}}) + frameOf(4, 2, [][]int{{1}}),
		"all in the first": frameOf(4, 0, [][]int{{6, 4, 1}}), "too few in the first": frameOf(4, 0, [][]int{{6}}) + frameOf(4, 1, [][]int{{4, 1}}),
		"too many in the last": first + frameOf(4, 1, [][]int{{1, 1}}), "too few in the first alone": frameOf(4, 0, [][]int{{6}}) + second,
		"three of one": frameOf(4, 0, [][]int{{6}}) + frameOf(4, 1, [][]int{{4}}) + third,
		"two channels": frameOf(4, 0, [][]int{{6, 4}, {6, 4}}) + second, "the wrong number 256": first + frameOf(4, 256, [][]int{{1}}), "the wrong number 257": first + frameOf(4, 257, [][]int{{1}}),
	} {
		h := exampleSaid()
		decodes(t, why, h.laid()+behind, api.ErrFrame)
		// The frames are looked at ahead of the sum.
		h.sum++
		decodes(t, why, h.laid()+behind, api.ErrFrame)
	}
}

// The frames are whole, but the head says something else of them.
func TestDecodeRefusesWrongLengthsAndPoints(t *testing.T) {
	r := ruler(25)
	for round := range 60 {
		c := anyConfig(&r)
		c.Seek = 1 + round%3
		sound := anySound(&r, c, 4*c.Block+1+round%c.Block)
		frames := framesOf(c, sound)
		h := saidOf(c, sound, frames)
		behind := strings.Join(frames, "")
		decodes(t, "right", h.laid()+behind, api.OK)
		fields := []*int{&h.shortest, &h.longest}
		for i := range h.points {
			fields = append(fields, &h.points[i])
		}
		for i, field := range fields {
			was := *field
			for _, v := range []int{was + 1, was - 1, 0, was + 256, 65535} {
				if *field = v; v >= 0 && v != was {
					decodes(t, "field "+string(rune('0'+i)), h.laid()+behind, api.ErrFrame)
				}
			}
			*field = was
		}
	}
}

func TestDecodeRefusesWrongSums(t *testing.T) {
	for _, change := range []int{1, -1, 256, 65536, -65536, 1 << 24, 1 << 31, -3932172} {
		h := exampleSaid()
		h.sum += change
		decodes(t, "a wrong sum", h.laid()+exampleFrames[0]+exampleFrames[1], api.ErrSum)
		decodes(t, "a wrong sum and a byte behind", h.laid()+exampleFrames[0]+exampleFrames[1]+"\x00", api.ErrFrame)
	}
	// The same samples, in another order or another channel.
	for _, other := range [][][]int{{{1, 2}, {3, 5}}, {{2, 1}, {5, 3}}, {{3, 5}, {1, 2}}, {{5, 3}, {2, 1}}} {
		c := configOf(2, 4, 1)
		h := saidOf(c, [][]int{{1, 2}, {5, 3}}, framesOf(c, other))
		decodes(t, "the samples of another order", h.laid()+strings.Join(framesOf(c, other), ""), api.ErrSum)
	}
}

// An empty sound has no frame, so its lengths are 0, and the sum of no bytes is 1.
func TestDecodeOfEmptySounds(t *testing.T) {
	for channels := 1; channels <= 4; channels++ {
		for _, seek := range []int{0, 1, 255} {
			h := said{finished: 1, channels: channels, depth: 12, block: 32, rate: 65535, seek: seek, sum: 1}
			info, sound, e := Decode(h.laid())
			if info != h.info() || !sameLists(sound, make([][]int, channels)) || e != api.OK {
				t.Errorf("P10: an empty sound: %+v, %v, %d", info, sound, e)
			}
			decodes(t, "a byte behind", h.laid()+"\x00", api.ErrFrame)
			decodes(t, "a frame behind", h.laid()+frameOf(12, 0, silent(channels, 1)), api.ErrFrame)
			for _, change := range []func(h *said){func(h *said) { h.shortest = 1 }, func(h *said) { h.longest = 1 }} {
				h := h
				change(&h)
				decodes(t, "a length of no frame", h.laid(), api.ErrFrame)
			}
			h.sum = 0
			decodes(t, "a wrong sum", h.laid(), api.ErrSum)
		}
	}
}

// longStream is a stream of so many bytes, of two channels, of one block.
func longStream(t *testing.T, size int) (string, [][]int) {
	t.Helper()
	c := configOf(2, 12, 5)
	bits, l := farBits(2047)
	r := []int{2000, 1000, 0, 0, 0}
	for {
		frame := framed(0, 5, 0, packed(bits+inBits(2, 4)+inBits(0, 4)+inBits(0, 2)+partOf(2, 0, 0, r, 0, 5, 0)))
		s := saidOf(c, [][]int{l, r}, []string{frame}).laid() + frame
		if len(s) == size {
			return s, [][]int{l, r}
		}
		if r[1]++; len(s) > size {
			t.Fatalf("there is no stream of %d bytes", size)
		}
	}
}

func TestReadingsOfTheLongestStream(t *testing.T) {
	s, sound := longStream(t, api.MaxStream)
	comesBack(t, configOf(2, 12, 5), sound, s)
	s, sound = longStream(t, api.MaxStream-1)
	comesBack(t, configOf(2, 12, 5), sound, s)
	long, _ := longStream(t, api.MaxStream+1)
	for _, s := range []string{long, strings.Repeat("R", 9001), exampleStream + strings.Repeat("\x00", 8951), exampleStream + strings.Repeat("\x00", 100000)} {
		decodes(t, "too long", s, api.ErrLong)
		if info, got, e := Salvage(s); info != (api.Info{}) || len(got) != 0 || e != api.ErrLong {
			t.Errorf("P11: %d bytes: %+v, %v, %d", len(s), info, got, e)
		}
		for _, at := range []int{-1, 0, 2, 3, 5} {
			if got, e := From(s, at); len(got) != 0 || e != api.ErrLong {
				t.Errorf("P12: %d bytes from %d on: %v, %d", len(s), at, got, e)
			}
		}
	}
	isNoHead(t, "9000 bytes", strings.Repeat("R", 9000))
	decodes(t, "9000 bytes", exampleStream+strings.Repeat("\x00", 8950), api.ErrFrame)
}

func TestSalvageOfTheExample(t *testing.T) {
	for i, c := range []struct {
		s    string
		want []int
	}{
		{exampleStream, []int{6, 4, 1}}, {exampleStream[:49], []int{6, 4}}, {exampleHead, nil}, {exampleBare, nil}, {exampleBare + exampleFrames[0], []int{6, 4}},
		{exampleHead + exampleFrames[1] + exampleFrames[0], nil}, {exampleHead + "\x00" + exampleFrames[0], nil}, {exampleHead + exampleFrames[0] + "\x00" + exampleFrames[1], []int{6, 4}},
		{exampleStream + "\x00", []int{6, 4, 1}}, {exampleStream + frameOf(4, 2, [][]int{{1}}), []int{6, 4, 1}}, {exampleStream + strings.Repeat("\xa5", 8950), []int{6, 4, 1}},
		{exampleHead + frameOf(4, 0, [][]int{{6}}) + frameOf(4, 1, [][]int{{1}}), nil}, {exampleHead + frameOf(4, 0, [][]int{{6, 4, 1}}), nil}, {exampleHead + exampleFrames[0] + frameOf(4, 1, [][]int{{1, 1}}), []int{6, 4}},
		{exampleHead + exampleFrames[0] + exampleFrames[0], []int{6, 4}}, {exampleHead + frameOf(4, 1, [][]int{{6, 4}}) + frameOf(4, 2, [][]int{{1}}), nil},
	} {
		info, sound, e := Salvage(c.s)
		if info != exampleInfo || !sameLists(sound, [][]int{c.want}) || e != api.OK {
			t.Errorf("P11: number %d: %+v, %v, %d, want %v", i, info, sound, e, c.want)
		}
	}
}

// Of a piece of a stream, finished or not, whole blocks are salvaged.
func TestSalvageOfPieces(t *testing.T) {
	r := ruler(26)
	for range 40 {
		c := anyConfig(&r)
		sound := anySound(&r, c, r.below(20))
		frames := framesOf(c, sound)
		h := saidOf(c, sound, frames)
		for _, h := range []said{h, h.bare()} {
			s := h.laid()
			whole := 0
			for k := 0; k <= len(frames); k++ {
				want := make([][]int, c.Channels)
				for i := range want {
					want[i] = sound[i][:whole]
				}
				last := len(frames) == k
				for cut := 0; last && cut == 0 || !last && cut < len(frames[k]); cut++ {
					piece := s
					if !last {
						piece += frames[k][:cut]
					}
					info, got, e := Salvage(piece)
					if info != h.info() || !sameLists(got, want) || e != api.OK {
						t.Fatalf("P11: %d bytes behind %d frames: %+v, %v, %d, want %v", cut, k, info, got, e, want)
					}
				}
				if !last {
					s, whole = s+frames[k], min(whole+c.Block, len(sound[0]))
				}
			}
		}
	}
}

// The lengths, the sum and the points are not looked at.
func TestSalvageDoesNotLookAtTheRest(t *testing.T) {
	h := exampleSaid()
	h.shortest, h.longest, h.sum, h.points = 1, 65535, 1<<32-1, []int{65535, 7}
	info, sound, e := Salvage(h.laid() + exampleFrames[0] + exampleFrames[1])
	if info != exampleInfo || !sameLists(sound, [][]int{{6, 4, 1}}) || e != api.OK {
		t.Errorf("P11: with another rest: %+v, %v, %d", info, sound, e)
	}
	h = said{finished: 1, channels: 3, depth: 4, block: 1, shortest: 9, longest: 8, sum: 7}
	if info, sound, e := Salvage(h.laid() + "\xa5"); info != h.info() || !sameLists(sound, make([][]int, 3)) || e != api.OK {
		t.Errorf("P11: an empty sound: %+v, %v, %d", info, sound, e)
	}
}
