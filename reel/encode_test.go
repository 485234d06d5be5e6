package reel

import (
	"math"
	"slices"
	"strings"
	"testing"

	"reel/api"
)

// The example of the configuration E.
var (
	exampleFrames = []string{laidDown(165, 0, 0, 0, 12, 1, 0, 110, 17, 104, 40, 21), laidDown(165, 0, 1, 0, 12, 0, 0, 25, 0, 16, 217, 212)}
	exampleHead   = laidDown(82, 76, 1, 1, 4, 2, 0, 8, 0, 3, 1, 0, 12, 0, 12, 0, 60, 0, 12, 160, 0, 0, 0, 12, 135, 63)
	exampleBare   = laidDown(82, 76, 0, 1, 4, 2, 0, 8, 0, 3, 1, 0, 0, 0, 0, 0, 0, 0, 0, 152, 0, 0, 0, 0, 127, 50)
	exampleStream = exampleHead + exampleFrames[0] + exampleFrames[1]
	exampleInfo   = api.Info{Channels: 1, Depth: 4, Block: 2, Rate: 8, Seek: 1, Samples: 3}
	emptyStream   = laidDown(82, 76, 1, 1, 4, 1, 0, 0, 0, 0, 0, 0, 0, 0, 0, 0, 0, 0, 1, 158, 139, 66)
)

func exampleSaid() said {
	return saidOf(rightConfig(), [][]int{{6, 4, 1}}, exampleFrames)
}

// checkEncode holds Encode against the document, and Decode against Encode.
func checkEncode(t *testing.T, c api.Config, sound [][]int) string {
	t.Helper()
	s, e := Encode(c, sound)
	if want := streamOf(c, sound); s != want || e != api.OK {
		t.Errorf("P9: Encode(%+v, %v) = %v, %d, want %v", c, sound, brief(s), e, brief(want))
	}
	comesBack(t, c, sound, s)
	return s
}

// comesBack holds Decode, Salvage and From against a stream of a sound.
func comesBack(t *testing.T, c api.Config, sound [][]int, s string) {
	t.Helper()
	want := api.Info{Channels: c.Channels, Depth: c.Depth, Block: c.Block, Rate: c.Rate, Seek: c.Seek, Samples: len(sound[0])}
	if info, got, e := Decode(s); info != want || !sameLists(got, sound) || e != api.OK {
		t.Errorf("P10, P18: %+v, %v come back as %+v, %v, %d", c, sound, info, got, e)
	}
	if info, got, e := Salvage(s); info != want || !sameLists(got, sound) || e != api.OK {
		t.Errorf("P11: %+v, %v are salvaged as %+v, %v, %d", c, sound, info, got, e)
	}
	for at := range len(sound[0]) + 1 {
		rest := make([][]int, len(sound))
		for i := range rest {
			rest[i] = sound[i][at:]
		}
		if got, e := From(s, at); !sameLists(got, rest) || e != api.OK {
			t.Errorf("P12: from %d on %+v, %v come back as %v, %d", at, c, sound, got, e)
		}
	}
}

func TestEncodeExamples(t *testing.T) {
	if s := checkEncode(t, rightConfig(), [][]int{{6, 4, 1}}); s != exampleStream || len(s) != 50 {
		t.Errorf("P9: Encode(E, [[6 4 1]]) = %v", []byte(s))
	}
	if h := exampleSaid(); h.laid() != exampleHead || h.bare().laid() != exampleBare || h.sum != 3932172 {
		t.Errorf("the heads of the example are %v and %v", []byte(h.laid()), []byte(h.bare().laid()))
	}
	for _, l := range [][]int{nil, {}} {
		if s := checkEncode(t, configOf(1, 4, 1), [][]int{l}); s != emptyStream {
			t.Errorf("P9: an empty sound: %v", []byte(s))
		}
	}
}

func TestEncodeOfManySounds(t *testing.T) {
	r := ruler(16)
	for round := range 120 {
		c := configOf(1+round%4, 4+r.below(9), 1+r.below(32))
		c.Rate, c.Seek = r.below(65536), r.below(6)
		sound := make([][]int, c.Channels)
		n := 1 + r.below(40)
		for i := range sound {
			sound[i] = shapes(&r, c.Depth, n)[r.below(14)]
		}
		checkEncode(t, c, sound)
	}
}

// The last block is full, or has one sample, or lacks one.
func TestEncodeOfLastBlocks(t *testing.T) {
	r := ruler(17)
	for _, block := range []int{1, 2, 3, 7} {
		for n := range 3*block + 2 {
			c := configOf(1+n%4, 5, block)
			c.Seek = n % 3
			checkEncode(t, c, anySound(&r, c, n))
		}
	}
}

func TestEncodeOfEachSeek(t *testing.T) {
	r := ruler(18)
	for _, seek := range []int{0, 1, 2, 3, 4, 5, 6, 7, 254, 255} {
		c := configOf(1, 4, 2)
		c.Seek = seek
		for _, n := range []int{0, 1, 2, 3, 10, 11, 12, 13} {
			checkEncode(t, c, anySound(&r, c, n))
		}
	}
}

// Rates, counts and points that need both of their bytes.
func TestEncodeOfGreatNumbers(t *testing.T) {
	r := ruler(19)
	for _, rate := range []int{0, 1, 255, 256, 511, 44100, 65535} {
		c := rightConfig()
		c.Rate = rate
		checkEncode(t, c, [][]int{{1, 2}})
	}
	for _, n := range []int{255, 256, 257, 299, 300} {
		for _, seek := range []int{0, 1, 127, 254, 255} {
			c := configOf(1, 5, 1)
			c.Seek = seek
			s := checkEncode(t, c, anySound(&r, c, n))
			if points := (len(s) - 22 - 12*n) / 2; seek > 0 && points != (n+seek-1)/seek {
				t.Errorf("P9: %d blocks have %d points with Seek %d", n, points, seek)
			}
		}
	}
}

// The sum runs over its modulus, and takes samples below 0 as the document says.
func TestEncodeOfGreatSums(t *testing.T) {
	for _, v := range []int{-1, -2048, 2047, 1, 255, -256} {
		for _, channels := range []int{1, 2, 4} {
			sound := silent(channels, 300)
			for _, l := range sound {
				copy(l, slices.Repeat([]int{v}, 300))
			}
			sound[channels-1][299] = v / 2
			c := configOf(channels, 12, 32)
			c.Seek = 1
			checkEncode(t, c, sound)
		}
	}
	// The places of one channel are not summed up ahead of the next channel's.
	checkEncode(t, configOf(2, 12, 4), [][]int{{1, 2, 300}, {-5, 700, -2000}})
}

// No sound of all has a stream above the bound: noise is what packs worst.
func TestEncodeKeepsToItsBound(t *testing.T) {
	r := ruler(21)
	longest := 0
	for channels := 1; channels <= 4; channels++ {
		for _, depth := range []int{4, 11, 12} {
			for _, block := range []int{1, 2, 3, 5, 31, 32} {
				c := configOf(channels, depth, block)
				c.Seek = 1
				sound := anySound(&r, c, api.MaxSamples)
				s, e := Encode(c, sound)
				if e != api.OK || len(s) > api.MaxStream {
					t.Errorf("P9: %+v makes a stream of %d bytes, %d", c, len(s), e)
				}
				longest = max(longest, len(s))
				if _, got, e := Decode(s); !sameLists(got, sound) || e != api.OK {
					t.Errorf("P18: the noise of %+v comes back otherwise: %d", c, e)
				}
			}
		}
	}
	if longest < 6000 {
		t.Errorf("the longest stream has but %d bytes", longest)
	}
}

func TestEncodeHangsOnWhatItIsGiven(t *testing.T) {
	c := rightConfig()
	c.Workers, c.Window, c.Room = 8, 16, 8
	if s, e := Encode(c, [][]int{{6, 4, 1}}); s != exampleStream || e != api.OK {
		t.Errorf("P9: with other workers Encode answers %v, %d", []byte(s), e)
	}
}

// wrongSounds are configurations that are not right, and sounds that are none of theirs.
func wrongSounds() []struct {
	c     api.Config
	sound [][]int
	want  api.Errno
} {
	changed := func(change func(c *api.Config)) api.Config {
		c := rightConfig()
		change(&c)
		return c
	}
	pair := changed(func(c *api.Config) { c.Channels = 2 })
	return []struct {
		c     api.Config
		sound [][]int
		want  api.Errno
	}{
		{api.Config{}, nil, api.ErrConfig}, {changed(func(c *api.Config) { c.Channels = 0 }), [][]int{}, api.ErrConfig},
		{changed(func(c *api.Config) { c.Channels = 5 }), silent(5, 1), api.ErrConfig}, {changed(func(c *api.Config) { c.Depth = 13 }), [][]int{{8}}, api.ErrConfig},
		{changed(func(c *api.Config) { c.Block = 0 }), [][]int{{1}}, api.ErrConfig}, {changed(func(c *api.Config) { c.Rate = 65536 }), [][]int{{1}}, api.ErrConfig},
		{changed(func(c *api.Config) { c.Seek = 256 }), [][]int{{1}}, api.ErrConfig}, {changed(func(c *api.Config) { c.Workers = 0 }), [][]int{{1}}, api.ErrConfig},
		{changed(func(c *api.Config) { c.Window = 17 }), [][]int{{1}}, api.ErrConfig}, {changed(func(c *api.Config) { c.Room = 9 }), [][]int{{99}}, api.ErrConfig},
		{rightConfig(), nil, api.ErrSound}, {rightConfig(), [][]int{{1}, {1}}, api.ErrSound}, {rightConfig(), [][]int{{8}}, api.ErrSound},
		{rightConfig(), [][]int{{math.MinInt}}, api.ErrSound}, {rightConfig(), silent(1, 301), api.ErrSound},
		{pair, [][]int{{1, 2}, {1}}, api.ErrSound}, {pair, [][]int{{}, {1}}, api.ErrSound},
	}
}

func TestEncodeErrorsInTheirOrder(t *testing.T) {
	for i, c := range wrongSounds() {
		if s, e := Encode(c.c, c.sound); s != "" || e != c.want {
			t.Errorf("P9: call %d: %q, %d, want %d", i, s, e, c.want)
		}
	}
}

// P18: what packs worst takes no more bits than the plain samples do.
func TestSubframesKeepToTheirBound(t *testing.T) {
	r := ruler(22)
	for w := 1; w <= api.MaxWidth; w++ {
		for n := 1; n <= api.MaxBlock; n++ {
			for _, l := range append(shapes(&r, w, n), anySamples(&r, w, n)) {
				if s, e := Code(w, l); len(s) > 8+n*w || e != api.OK {
					t.Errorf("P18: Code(%d, %v) has %d bits, %d", w, l, len(s), e)
				}
			}
		}
	}
}

// P18: a stream in which one byte is turned is refused, and what stands ahead of
// the frame in which it lies is salvaged.
func TestStreamsWithAByteTurned(t *testing.T) {
	r := ruler(23)
	for _, c := range []api.Config{rightConfig(), configOf(2, 6, 3), configOf(3, 5, 4)} {
		sound := anySound(&r, c, 3*c.Block-1)
		s, _ := Encode(c, sound)
		frames := framesOf(c, sound)
		size := len(s) - len(strings.Join(frames, ""))
		for i := range len(s) {
			ahead, end := 0, size
			for i >= size && i >= end+len(frames[ahead]) {
				end += len(frames[ahead])
				ahead++
			}
			for v := range 256 {
				if v == int(s[i]) {
					continue
				}
				turned := s[:i] + laidDown(v) + s[i+1:]
				info, got, e := Decode(turned)
				if info != (api.Info{}) || len(got) != 0 || (i < size && e != api.ErrHead) || (i >= size && e != api.ErrFrame) {
					t.Fatalf("P18: byte %d of %v turned into %d: %+v, %v, %d", i, []byte(s), v, info, got, e)
				}
				_, got, e = Salvage(turned)
				if i < size {
					if len(got) != 0 || e != api.ErrHead {
						t.Fatalf("P11: byte %d of the head turned into %d: %v, %d", i, v, got, e)
					}
					continue
				}
				want := make([][]int, c.Channels)
				for k := range want {
					want[k] = sound[k][:ahead*c.Block]
				}
				if !sameLists(got, want) || e != api.OK {
					t.Fatalf("P18: byte %d turned into %d: %v, %d are salvaged, want %v", i, v, got, e, want)
				}
			}
		}
	}
}
