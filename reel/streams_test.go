package reel

import (
	"slices"
	"strings"
	"testing"

	"reel/api"
)

// As reference_test.go does for frames, what stands here follows DOC.md for
// streams, and takes nothing from the program.

// two is a number in two bytes.
func two(v int) string {
	return laidDown(v/256, v%256)
}

// said is what a head says.
type said struct {
	finished, channels, depth, block, rate, samples, seek int
	shortest, longest, sum                                int
	points                                                []int
}

func (h said) laid() string {
	s := withEight("RL" + laidDown(h.finished, h.channels, h.depth, h.block) + two(h.rate) + two(h.samples) + laidDown(h.seek) +
		two(h.shortest) + two(h.longest) + two(h.sum/65536) + two(h.sum%65536))
	for _, p := range h.points {
		s += two(p)
	}
	return withSixteen(s)
}

// bare is the unfinished head of the same sound.
func (h said) bare() said {
	h.finished, h.shortest, h.longest, h.sum, h.points = 0, 0, 0, 0, make([]int, len(h.points))
	return h
}

func (h said) info() api.Info {
	return api.Info{Channels: h.channels, Depth: h.depth, Block: h.block, Rate: h.rate, Seek: h.seek, Samples: h.samples}
}

// cutUp are the blocks of a sound: each place lies in one.
func cutUp(sound [][]int, size int) [][][]int {
	var blocks [][][]int
	for place := range sound[0] {
		if place/size == len(blocks) {
			blocks = append(blocks, make([][]int, len(sound)))
		}
		block := blocks[place/size]
		for channel := range sound {
			block[channel] = append(block[channel], sound[channel][place])
		}
	}
	return blocks
}

// soundSum is the sum of a sound.
func soundSum(sound [][]int) int {
	var bytes []int
	for place := range sound[0] {
		for channel := range sound {
			v := sound[channel][place]
			if v < 0 {
				v += 65536
			}
			bytes = append(bytes, v%256, v/256)
		}
	}
	return sumOf(laidDown(bytes...))
}

// saidOf is what the finished head says of a sound with these frames.
func saidOf(c api.Config, sound [][]int, frames []string) said {
	h := said{finished: 1, channels: c.Channels, depth: c.Depth, block: c.Block, rate: c.Rate, samples: len(sound[0]), seek: c.Seek, sum: soundSum(sound)}
	for k, f := range frames {
		if k == 0 {
			h.shortest, h.longest = len(f), len(f)
		}
		h.shortest, h.longest = min(h.shortest, len(f)), max(h.longest, len(f))
		if c.Seek > 0 && k%c.Seek == 0 {
			h.points = append(h.points, len(strings.Join(frames[:k], "")))
		}
	}
	return h
}

// framesOf are the frames that Frame must make of a sound's blocks.
func framesOf(c api.Config, sound [][]int) []string {
	var frames []string
	for k, block := range cutUp(sound, c.Block) {
		frames = append(frames, frameOf(c.Depth, k, block))
	}
	return frames
}

// streamOf is the stream that Encode must make.
func streamOf(c api.Config, sound [][]int) string {
	frames := framesOf(c, sound)
	return saidOf(c, sound, frames).laid() + strings.Join(frames, "")
}

// looseFrame is a frame that Frame would hardly make, of any mode.
func looseFrame(r *ruler, depth, number int, block [][]int) string {
	mode, bits := 0, ""
	if len(block) == 2 {
		mode = r.below(4)
		lists, widths := toldBy(mode, depth, block[0], block[1])
		bits = loose(r, widths[0], lists[0]) + loose(r, widths[1], lists[1])
	} else {
		for _, l := range block {
			bits += loose(r, depth, l)
		}
	}
	return framed(number, len(block[0]), mode, packed(bits))
}

func looseFrames(r *ruler, c api.Config, sound [][]int) []string {
	var frames []string
	for k, block := range cutUp(sound, c.Block) {
		frames = append(frames, looseFrame(r, c.Depth, k, block))
	}
	return frames
}

func anySound(r *ruler, c api.Config, n int) [][]int {
	sound := make([][]int, c.Channels)
	for i := range sound {
		sound[i] = anySamples(r, c.Depth, n)
	}
	return sound
}

// anyConfig is right, with a small Block, so that small sounds have many blocks.
func anyConfig(r *ruler) api.Config {
	c := configOf(1+r.below(4), 4+r.below(3), 1+r.below(5))
	c.Rate, c.Seek = r.below(65536), r.below(5)
	return c
}

// headAhead is the head with which bytes begin: what stands in its fields makes
// these bytes again, and may stand there.
func headAhead(s string) (said, bool) {
	if len(s) < 22 {
		return said{}, false
	}
	at := func(i int) int { return int(s[i]) }
	pair := func(i int) int { return 256*at(i) + at(i+1) }
	h := said{finished: at(2), channels: at(3), depth: at(4), block: at(5), rate: pair(6), samples: pair(8), seek: at(10),
		shortest: pair(11), longest: pair(13), sum: 65536*pair(15) + pair(17)}
	if h.finished > 1 || h.channels < 1 || h.channels > 4 || h.depth < 4 || h.depth > 12 || h.block < 1 || h.block > 32 || h.samples > 300 {
		return said{}, false
	}
	for k := 0; k*h.block < h.samples; k++ {
		if h.seek > 0 && k%h.seek == 0 {
			i := 20 + 2*len(h.points)
			if i+2 > len(s) {
				return said{}, false
			}
			h.points = append(h.points, pair(i))
		}
	}
	if !strings.HasPrefix(s, h.laid()) || h.finished == 0 && h.laid() != h.bare().laid() {
		return said{}, false
	}
	return h, true
}

// framesAhead reads frames with which bytes begin, from a number on, by Unframe,
// which has tests of its own: these frames, and their samples.
func framesAhead(h said, number int, s string) ([]string, [][]int) {
	sound, frames := make([][]int, h.channels), []string(nil)
	places := cutUp([][]int{make([]int, h.samples)}, h.block)
	for ; number < len(places); number++ {
		block, n, e := Unframe(configOf(h.channels, h.depth, h.block), number, s)
		if e != api.OK || len(block[0]) != len(places[number][0]) {
			break
		}
		for channel := range block {
			sound[channel] = append(sound[channel], block[channel]...)
		}
		frames, s = append(frames, s[:n]), s[n:]
	}
	return frames, sound
}

// checkReadings holds Decode, Salvage and From, at some places, against the
// document, and tells what Decode and the last From answered.
func checkReadings(t *testing.T, s string, places ...int) (decoded, from api.Errno) {
	t.Helper()
	info, sound, e := Decode(s)
	wantInfo, wantSound, want := decoding(s)
	if info != wantInfo || !sameLists(sound, wantSound) || e != want {
		t.Errorf("P10: Decode(%v) = %+v, %v, %d, want %+v, %v, %d", []byte(s), info, sound, e, wantInfo, wantSound, want)
	}
	decoded = e
	info, sound, e = Salvage(s)
	wantInfo, wantSound, want = salvaging(s)
	if info != wantInfo || !sameLists(sound, wantSound) || e != want {
		t.Errorf("P11: Salvage(%v) = %+v, %v, %d, want %+v, %v, %d", []byte(s), info, sound, e, wantInfo, wantSound, want)
	}
	for _, at := range places {
		sound, from = From(s, at)
		wantSound, want = fromPlace(s, at)
		if !sameLists(sound, wantSound) || from != want {
			t.Errorf("P12: From(%v, %d) = %v, %d, want %v, %d", []byte(s), at, sound, from, wantSound, want)
		}
	}
	return decoded, from
}

// decoding is what Decode must answer.
func decoding(s string) (api.Info, [][]int, api.Errno) {
	h, ok := headAhead(s)
	if len(s) > 9000 {
		return api.Info{}, nil, api.ErrLong
	}
	if !ok || h.finished == 0 {
		return api.Info{}, nil, api.ErrHead
	}
	frames, sound := framesAhead(h, 0, s[len(h.laid()):])
	c := configOf(h.channels, h.depth, h.block)
	c.Rate, c.Seek = h.rate, h.seek
	right := saidOf(c, sound, frames)
	whole := right
	whole.sum = h.sum
	if len(sound[0]) != h.samples || whole.laid()+strings.Join(frames, "") != s {
		return api.Info{}, nil, api.ErrFrame
	}
	if right.sum != h.sum {
		return api.Info{}, nil, api.ErrSum
	}
	return h.info(), sound, api.OK
}

// salvaging is what Salvage must answer.
func salvaging(s string) (api.Info, [][]int, api.Errno) {
	h, ok := headAhead(s)
	if len(s) > 9000 {
		return api.Info{}, nil, api.ErrLong
	}
	if !ok {
		return api.Info{}, nil, api.ErrHead
	}
	_, sound := framesAhead(h, 0, s[len(h.laid()):])
	return h.info(), sound, api.OK
}

// fromPlace is what From must answer.
func fromPlace(s string, at int) ([][]int, api.Errno) {
	h, ok := headAhead(s)
	if len(s) > 9000 {
		return nil, api.ErrLong
	}
	if !ok || h.finished == 0 {
		return nil, api.ErrHead
	}
	if at < 0 || at > h.samples {
		return nil, api.ErrArg
	}
	if at == h.samples {
		return make([][]int, h.channels), api.OK
	}
	number, skip := 0, 0
	for i, p := range h.points {
		if i*h.seek*h.block <= at {
			number, skip = i*h.seek, p
		}
	}
	s = s[len(h.laid()):]
	if skip > len(s) {
		return nil, api.ErrFrame
	}
	frames, sound := framesAhead(h, number, s[skip:])
	if len(sound[0]) != h.samples-number*h.block || strings.Join(frames, "") != s[skip:] {
		return nil, api.ErrFrame
	}
	for channel := range sound {
		sound[channel] = slices.Clone(sound[channel][at-number*h.block:])
	}
	return sound, api.OK
}

// resealed puts right the checks of what begins as a head with so many points.
func resealed(s string, points int) string {
	end := 20 + 2*points
	return withSixteen(withEight(s[:19])+s[20:end]) + s[end+2:]
}

// Whatever stands in a stream, the readings answer what the document says.
func TestReadingsOfStreamsThatWereMeddledWith(t *testing.T) {
	r := ruler(20)
	decoded, from := map[api.Errno]int{}, map[api.Errno]int{}
	for range 3000 {
		c := anyConfig(&r)
		sound := anySound(&r, c, r.below(14))
		frames := looseFrames(&r, c, sound)
		h := saidOf(c, sound, frames)
		meddle(&r, c, &h, sound, frames)
		s := h.laid() + strings.Join(frames, "")
		for range r.below(3) * r.below(2) {
			i := r.below(len(s))
			s = s[:i] + laidDown(int(s[i])^1<<r.below(8)) + s[i+1:]
			if r.below(2) == 0 {
				s = resealed(s, len(h.points))
			}
		}
		s = s[:len(s)-r.below(2)*r.below(5)]
		d, f := checkReadings(t, s, -1, 14, 0, r.below(14), r.below(14))
		decoded[d]++
		from[f]++
	}
	for _, e := range []api.Errno{api.OK, api.ErrHead, api.ErrFrame, api.ErrSum} {
		if decoded[e] < 50 || e != api.ErrSum && from[e] < 50 {
			t.Errorf("too few are answered with %d: %v, %v", e, decoded, from)
		}
	}
}

// meddle turns one thing or nothing of a stream into another.
func meddle(r *ruler, c api.Config, h *said, sound [][]int, frames []string) {
	some := func(l []int) *int {
		if len(l) == 0 {
			return &h.sum
		}
		return &l[r.below(len(l))]
	}
	switch r.below(12) {
	case 0:
		*h = h.bare()
	case 1:
		h.shortest = max(0, h.shortest+r.below(3)-1)
	case 2:
		h.longest = max(0, h.longest+r.below(3)-1)
	case 3, 4:
		*some(h.points) += r.below(6)
	case 5:
		h.sum += 1 - r.below(2)*2
	case 6:
		h.samples = max(0, h.samples+r.below(3)-1)
	case 7:
		if len(frames) > 1 {
			i := r.below(len(frames) - 1)
			frames[i], frames[i+1] = frames[i+1], frames[i]
		}
	case 8:
		if k := len(frames); k > 0 {
			k = r.below(k)
			frames[k] = looseFrame(r, c.Depth, k, anySound(r, c, 1+r.below(c.Block)))
		}
	case 9:
		if k := len(frames); k > 0 {
			k = r.below(k)
			frames[k] = looseFrame(r, c.Depth, k+r.below(2), cutUp(sound, c.Block)[k]) + strings.Repeat("\x00", r.below(2))
		}
	}
}
