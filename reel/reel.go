// Package reel: sound, packed without loss, block by block, by several workers: see DOC.md.
package reel

import (
	"reel/api"
	"reel/bittext"
	"reel/crew"
	"reel/frame"
	"reel/limits"
	"reel/line"
	"reel/stream"
	"reel/subframe"
	"reel/sums"
)

// Line packs one sound, a step at a time.
type Line struct {
	tasks *line.Line
}

// Check tells whether a configuration and a sound of it are right (P3).
func Check(c api.Config, sound [][]int) api.Errno {
	if !limits.RightConfig(c) {
		return api.ErrConfig
	}
	if !limits.IsSound(c, sound) {
		return api.ErrSound
	}
	return api.OK
}

// Eight is the check of bytes in eight bits (P4).
func Eight(s string) int { return sums.Eight(s) }

// Sixteen is the check of bytes in sixteen bits (P4).
func Sixteen(s string) int { return sums.Sixteen(s) }

// Sum is the sum of bytes (P4).
func Sum(s string) int { return sums.Sum(s) }

// Code lays samples down as the shortest subframe (P5).
func Code(width int, l []int) (string, api.Errno) {
	if !limits.IsSubframeSize(width, len(l)) || !limits.AreSamples(width, l) {
		return "", api.ErrArg
	}
	return subframe.Code(width, l), api.OK
}

// Read reads a subframe: its samples, and how many bits it has (P6).
func Read(width int, n int, bits string) ([]int, int, api.Errno) {
	if !limits.IsSubframeSize(width, n) {
		return nil, 0, api.ErrArg
	}
	if len(bits) > api.MaxBits {
		return nil, 0, api.ErrLong
	}
	if !bittext.IsBits(bits) {
		return nil, 0, api.ErrBits
	}
	samples, length, ok := subframe.Read(width, n, bits)
	if !ok {
		return nil, 0, api.ErrBits
	}
	return samples, length, api.OK
}

// Frame packs a block (P7).
func Frame(c api.Config, number int, block [][]int) (string, api.Errno) {
	if errno := checkNumbered(c, number); errno != api.OK {
		return "", errno
	}
	if !limits.IsBlock(c, block) {
		return "", api.ErrSound
	}
	return frame.Make(c, number, block), api.OK
}

// Unframe reads a frame: its samples, and how many bytes it has (P8).
func Unframe(c api.Config, number int, s string) ([][]int, int, api.Errno) {
	if errno := checkNumbered(c, number); errno != api.OK {
		return nil, 0, errno
	}
	if len(s) > api.MaxStream {
		return nil, 0, api.ErrLong
	}
	lists, length, ok := frame.Read(c, number, s)
	if !ok {
		return nil, 0, api.ErrFrame
	}
	return lists, length, api.OK
}

// checkNumbered tells whether there can be a frame of this number.
func checkNumbered(c api.Config, number int) api.Errno {
	if !limits.RightConfig(c) {
		return api.ErrConfig
	}
	if !limits.Within(number, 0, api.MaxNumber) {
		return api.ErrArg
	}
	return api.OK
}

// Encode packs a sound into a stream (P9).
func Encode(c api.Config, sound [][]int) (string, api.Errno) {
	if errno := Check(c, sound); errno != api.OK {
		return "", errno
	}
	return stream.Encode(c, sound), api.OK
}

// Decode gives a stream's sound back (P10).
func Decode(s string) (api.Info, [][]int, api.Errno) {
	if len(s) > api.MaxStream {
		return api.Info{}, nil, api.ErrLong
	}
	return stream.Decode(s)
}

// Salvage gives back what whole frames there are (P11).
func Salvage(s string) (api.Info, [][]int, api.Errno) {
	if len(s) > api.MaxStream {
		return api.Info{}, nil, api.ErrLong
	}
	return stream.Salvage(s)
}

// From gives a stream's samples back from a place on (P12).
func From(s string, at int) ([][]int, api.Errno) {
	if len(s) > api.MaxStream {
		return nil, api.ErrLong
	}
	return stream.From(s, at)
}

// New makes a line; the sink's write of the number fail fails (P13).
func New(c api.Config, sound [][]int, fail int) (*Line, api.Errno) {
	if errno := Check(c, sound); errno != api.OK {
		return nil, errno
	}
	return &Line{line.New(c, sound, fail)}, api.OK
}

// Able tells which tasks are able to step (P15).
func (l *Line) Able() []int { return l.tasks.Able() }

// Step lets one of the tasks that are able make a step, and tells which (P15).
func (l *Line) Step(pick int) (int, api.Errno) {
	if l.tasks.Over() {
		return 0, api.ErrOver
	}
	if pick < 0 {
		return 0, api.ErrArg
	}
	return l.tasks.Step(pick), api.OK
}

// Cancel stops the line (P15).
func (l *Line) Cancel() api.Errno {
	if l.tasks.Over() || l.tasks.Stopped() {
		return api.ErrOver
	}
	l.tasks.Stop()
	return api.OK
}

// Look tells how the line is (P16).
func (l *Line) Look() api.View { return l.tasks.Look() }

// Bytes tells what the sink holds (P16).
func (l *Line) Bytes() string { return l.tasks.Bytes() }

// Pack packs a sound into a stream, with workers beside one another (P17).
func Pack(c api.Config, sound [][]int) (string, api.Errno) {
	if errno := Check(c, sound); errno != api.OK {
		return "", errno
	}
	return crew.Pack(c, sound), api.OK
}
