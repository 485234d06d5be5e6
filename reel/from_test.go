package reel

import (
	"math"
	"strings"
	"testing"

	"reel/api"
)

// fromAll holds From, at each place of a stream of one channel, against what is
// wanted there: nil where it is ErrFrame.
func fromAll(t *testing.T, why, s string, want ...[]int) {
	t.Helper()
	for at, l := range want {
		sound, e := From(s, at)
		if l == nil {
			if len(sound) != 0 || e != api.ErrFrame {
				t.Errorf("P12: %s: from %d on %v, %d, want ErrFrame", why, at, sound, e)
			}
		} else if !sameLists(sound, [][]int{l}) || e != api.OK {
			t.Errorf("P12: %s: from %d on %v, %d, want %v", why, at, sound, e, l)
		}
	}
}

func TestFromOfTheExample(t *testing.T) {
	first, second := exampleFrames[0], exampleFrames[1]
	none := []int{}
	all, four, one := []int{6, 4, 1}, []int{4, 1}, []int{1}
	fromAll(t, "the example", exampleStream, all, four, one, none)
	fromAll(t, "no first frame", exampleHead+strings.Repeat("\x00", 12)+second, nil, nil, one, none)
	fromAll(t, "a turned first frame", exampleHead+first[:11]+"\x00"+second, nil, nil, one, none)
	fromAll(t, "the second frame twice", exampleHead+second+second, nil, nil, one, none)
	fromAll(t, "a first frame of one sample", exampleHead+frameOf(4, 0, [][]int{{6}})+second, nil, nil, one, none)
	fromAll(t, "no frame", exampleHead, nil, nil, nil, none)
	fromAll(t, "a byte less", exampleStream[:49], nil, nil, nil, none)
	fromAll(t, "a byte behind", exampleStream+"\x00", nil, nil, nil, none)
	fromAll(t, "a frame behind", exampleStream+frameOf(4, 2, [][]int{{1}}), nil, nil, nil, none)
	fromAll(t, "a frame twice", exampleStream+second, nil, nil, nil, none)
	fromAll(t, "a wrong number", exampleHead+first+frameOf(4, 2, [][]int{{1}}), nil, nil, nil, none)
	fromAll(t, "too many samples in the last", exampleHead+first+frameOf(4, 1, [][]int{{1, 1}}), nil, nil, nil, none)
	fromAll(t, "the first frame alone", exampleHead+first, nil, nil, nil, none)
}

// From begins where the point says, wherever that is.
func TestFromAnyPoint(t *testing.T) {
	first, second := exampleFrames[0], exampleFrames[1]
	none := []int{}
	all, four, one := []int{6, 4, 1}, []int{4, 1}, []int{1}
	for _, c := range []struct {
		points []int
		frames string
		want   [][]int
	}{
		{[]int{0, 11}, first + second, [][]int{all, four, nil, none}}, {[]int{0, 13}, first + second, [][]int{all, four, nil, none}},
		{[]int{0, 0}, first + second, [][]int{all, four, nil, none}}, {[]int{12, 12}, first + second, [][]int{nil, nil, one, none}}, {[]int{1, 12}, first + second, [][]int{nil, nil, one, none}},
		{[]int{0, 23}, first + second, [][]int{all, four, nil, none}}, {[]int{0, 24}, first + second, [][]int{all, four, nil, none}}, {[]int{0, 25}, first + second, [][]int{all, four, nil, none}},
		{[]int{0, 65535}, first + second, [][]int{all, four, nil, none}}, {[]int{65535, 12}, first + second, [][]int{nil, nil, one, none}}, {[]int{0, 268}, first + second, [][]int{all, four, nil, none}},
		{[]int{3, 15}, "abc" + first + second, [][]int{all, four, one, none}}, {[]int{3, 12}, "abc" + first + second, [][]int{all, four, nil, none}}, {[]int{0, 15}, "abc" + first + second, [][]int{nil, nil, one, none}},
		{[]int{12, 0}, second + first + second, [][]int{all, four, nil, none}}, {[]int{0, 0}, second, [][]int{nil, nil, one, none}}, {[]int{0, 300}, strings.Repeat("x", 300) + second, [][]int{nil, nil, one, none}},
	} {
		h := exampleSaid()
		h.points, h.shortest, h.longest, h.sum = c.points, 77, 3, 5
		fromAll(t, "other points", h.laid()+c.frames, c.want...)
	}
}

// Frames are read from the last point on that does not lie behind the place, and
// what stands ahead of it is not looked at.
func TestFromReadsNoMoreThanItMust(t *testing.T) {
	r := ruler(27)
	for _, seek := range []int{0, 1, 2, 3, 4, 9, 255} {
		for _, block := range []int{1, 2, 3, 5} {
			c := configOf(1+block%4, 5, block)
			c.Seek = seek
			sound := anySound(&r, c, 8*block-block/2)
			frames := looseFrames(&r, c, sound)
			head := saidOf(c, sound, frames).laid()
			for broken := range frames {
				s := head + strings.Join(frames[:broken], "") + strings.Repeat("\xa5", len(frames[broken])) + strings.Join(frames[broken+1:], "")
				for at := range sound[0] {
					begins := 0
					for k := range frames {
						if seek > 0 && k%seek == 0 && k*block <= at {
							begins = k
						}
					}
					checkFrom(t, s, at, sound, broken < begins)
				}
			}
		}
	}
}

func checkFrom(t *testing.T, s string, at int, sound [][]int, whole bool) {
	t.Helper()
	got, e := From(s, at)
	if !whole {
		if len(got) != 0 || e != api.ErrFrame {
			t.Errorf("P12: from %d on: %v, %d, want ErrFrame", at, got, e)
		}
		return
	}
	want := make([][]int, len(sound))
	for i := range want {
		want[i] = sound[i][at:]
	}
	if !sameLists(got, want) || e != api.OK {
		t.Errorf("P12: from %d on: %v, %d, want %v", at, got, e, want)
	}
}

func TestFromErrorsInTheirOrder(t *testing.T) {
	bare := exampleBare + exampleFrames[0] + exampleFrames[1]
	long := exampleStream + strings.Repeat("\x00", 9000)
	for i, c := range []struct {
		s    string
		at   int
		want api.Errno
	}{
		{long, -1, api.ErrLong}, {long, 4, api.ErrLong}, {long, 0, api.ErrLong}, {strings.Repeat("x", 9001), -1, api.ErrLong},
		{"", -1, api.ErrHead}, {bare, -1, api.ErrHead}, {bare, 4, api.ErrHead}, {bare, 0, api.ErrHead}, {bare, 3, api.ErrHead}, {exampleHead[:25], 0, api.ErrHead},
		{exampleStream, -1, api.ErrArg}, {exampleStream, 4, api.ErrArg}, {exampleStream, math.MinInt, api.ErrArg}, {exampleStream, math.MaxInt, api.ErrArg}, {exampleHead, -1, api.ErrArg}, {exampleHead, 4, api.ErrArg},
		{exampleHead, 0, api.ErrFrame}, {exampleHead, 2, api.ErrFrame}, {exampleHead + "\xa5", 1, api.ErrFrame},
		{emptyStream, -1, api.ErrArg}, {emptyStream, 1, api.ErrArg}, {emptyStream + "\x00", 1, api.ErrArg},
	} {
		if sound, e := From(c.s, c.at); len(sound) != 0 || e != c.want {
			t.Errorf("P12: call %d: %v, %d, want %d", i, sound, e, c.want)
		}
	}
}

// At the end there is nothing to be read, so nothing is looked at.
func TestFromTheEnd(t *testing.T) {
	for channels := 1; channels <= 4; channels++ {
		for _, n := range []int{0, 1, 2, 5, 300} {
			h := said{finished: 1, channels: channels, depth: 4, block: 2, samples: n, shortest: 3, longest: 2, sum: 9}
			for _, behind := range []string{"", "\x00", "rubbish"} {
				sound, e := From(h.laid()+behind, n)
				if !sameLists(sound, make([][]int, channels)) || e != api.OK {
					t.Errorf("P12: from the end of %d on: %v, %d", n, sound, e)
				}
			}
		}
	}
}
