package reel

import (
	"math"
	"slices"
	"strings"
	"testing"

	"reel/api"
)

// spared is a copy of a list with spare room behind it, in which 77 stands.
func spared(l []int) []int {
	whole := slices.Repeat([]int{77}, len(l)+40)
	copy(whole, l)
	return whole[:len(l)]
}

func untouched(t *testing.T, name string, l, want []int) {
	t.Helper()
	if !slices.Equal(l, want) {
		t.Errorf("P2: %s wrote into what it was given: %v", name, l)
	}
	for _, v := range l[len(l):cap(l)] {
		if v != 77 {
			t.Errorf("P2: %s wrote into the spare room", name)
			return
		}
	}
}

func TestNothingHandedInIsWritten(t *testing.T) {
	r := ruler(2)
	for w := 1; w <= api.MaxWidth; w++ {
		for _, n := range []int{1, 2, 3, 8, 31, 32} {
			for _, want := range shapes(&r, w, n) {
				l := spared(want)
				Code(w, l)
				untouched(t, "Code", l, want)
			}
		}
	}
	c := rightConfig()
	c.Channels = 2
	sound := [][]int{spared([]int{1, 2, 3}), spared([]int{4, 5, 6}), {9}}
	for _, n := range []int{1, 2, 3} {
		Check(c, sound[:n])
		untouched(t, "Check", sound[0], []int{1, 2, 3})
		untouched(t, "Check", sound[1], []int{4, 5, 6})
		if len(sound[2]) != 1 || sound[2][0] != 9 {
			t.Error("P2: Check wrote behind the lists")
		}
	}
}

func TestFrameWritesNothing(t *testing.T) {
	r := ruler(3)
	for channels := 1; channels <= 4; channels++ {
		for _, n := range []int{1, 2, 7, 32} {
			all := make([][]int, channels, channels+1)
			want := make([][]int, channels)
			for i := range all {
				want[i] = shapes(&r, 9, n)[r.below(14)]
				all[i] = spared(want[i])
			}
			all[:channels+1][channels] = []int{9}
			if _, e := Frame(configOf(channels, 9, 32), 1, all); e != api.OK {
				t.Fatalf("Frame: %d", e)
			}
			for i, l := range all {
				untouched(t, "Frame", l, want[i])
			}
			if behind := all[:channels+1][channels]; len(behind) != 1 || behind[0] != 9 {
				t.Error("P2: Frame wrote behind the lists")
			}
		}
	}
}

func TestEncodeAndPackWriteAndKeepNothing(t *testing.T) {
	r := ruler(28)
	for channels := 1; channels <= 4; channels++ {
		for _, n := range []int{0, 1, 2, 7, 40} {
			c := configOf(channels, 9, 3)
			c.Seek, c.Workers = n%3, 1+n%8
			want := anySound(&r, c, n)
			writesAndKeepsNothing(t, "Encode", Encode, c, want)
			writesAndKeepsNothing(t, "Pack", Pack, c, want)
		}
	}
}

// writesAndKeepsNothing holds a call that makes a stream of a sound to P2.
func writesAndKeepsNothing(t *testing.T, name string, call func(c api.Config, sound [][]int) (string, api.Errno), c api.Config, want [][]int) {
	t.Helper()
	all := make([][]int, c.Channels, c.Channels+1)
	for i := range all {
		all[i] = spared(want[i])
	}
	all[:c.Channels+1][c.Channels] = []int{9}
	before, e := call(c, all)
	if e != api.OK {
		t.Fatalf("%s: %d", name, e)
	}
	for i, l := range all {
		untouched(t, name, l, want[i])
	}
	if behind := all[:c.Channels+1][c.Channels]; len(behind) != 1 || behind[0] != 9 {
		t.Errorf("P2: %s wrote behind the lists", name)
	}
	for _, l := range all {
		clear(l[:cap(l)])
	}
	if again, _ := call(c, want); again != before {
		t.Errorf("P2: %s kept the lists", name)
	}
	if zeros, _ := call(c, all); zeros != streamOf(c, all) {
		t.Errorf("P2: %s answers what it was asked before", name)
	}
}

// A line has a copy of its sound: the caller may write into the lists from the
// first step on.
func TestNewWritesAndKeepsNothing(t *testing.T) {
	r := ruler(34)
	for channels := 1; channels <= 4; channels++ {
		for _, n := range []int{0, 1, 2, 7, 20} {
			c := configOf(channels, 9, 3)
			c.Seek, c.Workers, c.Room = n%3, 2, 2
			want := anySound(&r, c, n)
			all := make([][]int, channels, channels+1)
			for i := range all {
				all[i] = spared(want[i])
			}
			all[:channels+1][channels] = []int{9}
			for _, steps := range []int{0, 1, 9, 1000} {
				l, m := newLine(t, c, all, 0)
				for range min(steps, 6*len(m.frames)+6) {
					stepBoth(t, l, m, r.below(100))
				}
				for i, list := range all {
					untouched(t, "a line", list, want[i])
				}
				if behind := all[:channels+1][channels]; len(behind) != 1 || behind[0] != 9 {
					t.Error("P2: a line wrote behind the lists")
				}
				for i, list := range all {
					clear(list[:cap(list)])
					all[i] = nil
				}
				runOut(t, l, m, first)
				if l.Bytes() != streamOf(c, want) {
					t.Errorf("P2: behind %d steps a line hangs on the lists that it was given", steps)
				}
				for i := range all {
					all[i] = spared(want[i])
				}
			}
		}
	}
}

func TestListsOfALineAreNew(t *testing.T) {
	r := ruler(35)
	for range 40 {
		l, m := anyLine(t, &r, r.below(25), r.below(20))
		for !m.over() {
			areNew(t, func() [][]int { return [][]int{l.Able()} })
			areNew(t, func() [][]int {
				v := l.Look()
				return [][]int{v.Held, v.Shelf, v.Ended}
			})
			stepBoth(t, l, m, r.below(100))
			isAs(t, l, m)
		}
	}
}

// What Bytes answered stays as it was while the sink takes more.
func TestBytesOfALineStay(t *testing.T) {
	l, m := exampleLine(t, 0)
	var answers, copies []string
	for !m.over() {
		answers = append(answers, l.Bytes())
		copies = append(copies, strings.Clone(l.Bytes()))
		stepBoth(t, l, m, 0)
	}
	if !slices.Equal(answers, copies) {
		t.Errorf("P2: answers of Bytes turned from %q into %q", copies, answers)
	}
}

// Lines of one sound step in turn, some are stopped, and none moves another.
func TestLinesHaveNothingToDoWithOneAnother(t *testing.T) {
	r := ruler(36)
	c := anyConfig(&r)
	sound := anySound(&r, c, 20)
	var lines []*Line
	var models []*model
	for fail := range 6 {
		l, m := newLine(t, c, sound, fail)
		lines, models = append(lines, l), append(models, m)
	}
	for range 3000 {
		i := r.below(len(lines))
		if r.below(400) == 0 {
			cancelBoth(t, lines[i], models[i])
		} else if !models[i].over() {
			stepBoth(t, lines[i], models[i], r.below(100))
		}
		j := r.below(len(lines))
		isAs(t, lines[j], models[j])
	}
}

// One list may stand for two channels.
func TestOneListTwice(t *testing.T) {
	l := []int{3, 1, 4, 1, 5}
	checkFrame(t, configOf(2, 4, 5), 0, [][]int{l, l})
	checkFrame(t, configOf(4, 4, 5), 0, [][]int{l, l, l, l})
	checkEncode(t, configOf(2, 4, 2), [][]int{l, l})
	checkEncode(t, configOf(4, 4, 2), [][]int{l, l, l, l})
	checkPack(t, configOf(2, 4, 2), [][]int{l, l})
	checkPack(t, configOf(4, 4, 2), [][]int{l, l, l, l})
	if !slices.Equal(l, []int{3, 1, 4, 1, 5}) {
		t.Errorf("P2: Frame, Encode or Pack wrote into what it was given: %v", l)
	}
}

func TestListsOfAFrameAreNew(t *testing.T) {
	r := ruler(14)
	for channels := 1; channels <= 4; channels++ {
		for mode := range 4 {
			block := make([][]int, channels)
			bits := ""
			for i := range block {
				block[i] = anySamples(&r, 6, 5)
				bits += loose(&r, 6, block[i])
			}
			if channels == 2 {
				lists, widths := toldBy(mode, 6, block[0], block[1])
				bits = loose(&r, widths[0], lists[0]) + loose(&r, widths[1], lists[1])
			} else if mode > 0 {
				continue
			}
			s := framed(0, 5, mode, packed(bits))
			ask := func() [][]int {
				got, _, _ := Unframe(configOf(channels, 6, 5), 0, s)
				return got
			}
			if !sameLists(ask(), block) {
				t.Fatalf("Unframe of mode %d answers %v, want %v", mode, ask(), block)
			}
			areNew(t, ask)
		}
	}
}

func TestListsOfAStreamAreNew(t *testing.T) {
	r := ruler(29)
	for channels := 1; channels <= 4; channels++ {
		for _, n := range []int{0, 1, 4, 5, 9} {
			c := configOf(channels, 6, 4)
			c.Seek = n % 2
			sound := anySound(&r, c, n)
			s, _ := Encode(c, sound)
			areNew(t, func() [][]int { _, got, _ := Decode(s); return got })
			areNew(t, func() [][]int { _, got, _ := Salvage(s); return got })
			areNew(t, func() [][]int { _, got, _ := Salvage(s[:len(s)-1]); return got })
			for at := range n + 1 {
				areNew(t, func() [][]int { got, _ := From(s, at); return got })
			}
		}
	}
}

// areNew writes into all that an answer holds, and behind it, one list at a
// time, and looks whether anything else comes out another than before.
func areNew(t *testing.T, ask func() [][]int) {
	t.Helper()
	before := ask()
	want := make([][]int, len(before))
	for i, l := range before {
		want[i] = slices.Clone(l)
	}
	for i := range want {
		answer := ask()
		for _, room := range [][]int{answer[i], answer[i][:cap(answer[i])], append(answer[i], 98)} {
			for j := range room {
				room[j] = 99
			}
		}
		for j := range answer {
			if j != i && !slices.Equal(answer[j], want[j]) {
				t.Errorf("P2: lists %d and %d share memory", i, j)
			}
		}
	}
	spare := ask()
	spare = spare[:cap(spare)]
	clear(spare)
	if !sameLists(before, want) || !sameLists(ask(), want) {
		t.Error("P2: two answers share memory")
	}
}

func TestNothingHandedInIsKept(t *testing.T) {
	l := []int{1, 2, 3, 4, 5, 6, 7, 8}
	before, _ := Code(5, l)
	clear(l)
	if again, _ := Code(5, []int{1, 2, 3, 4, 5, 6, 7, 8}); again != before {
		t.Error("P2: Code kept the list")
	}
	if zeros, _ := Code(5, l); zeros != codeOf(5, l) {
		t.Error("P2: Code answers what it was asked before")
	}
}

func TestListsThatComeOutAreNew(t *testing.T) {
	for _, s := range []string{"000000000011", "00010000" + "0011" + "0011" + "0011", "00110000" + "0011" + "00" + "0000" + "11"} {
		first, _, e := Read(4, 3, s)
		if e != api.OK {
			t.Fatalf("Read(4, 3, %s): %d", s, e)
		}
		second, _, _ := Read(4, 3, s)
		for i := range first {
			first[i] = 99
		}
		spare := first[:cap(first)]
		for i := range spare {
			spare[i] = 98
		}
		third, _, _ := Read(4, 3, s)
		for _, l := range [][]int{second, third} {
			if !slices.Equal(l, []int{3, 3, 3}) {
				t.Errorf("P2: Read(4, 3, %s) shares its answer: %v", s, l)
			}
			if slices.Contains(l[len(l):cap(l)], 98) {
				t.Errorf("P2: Read(4, 3, %s) shares its spare room", s)
			}
		}
	}
}

// A call that panics or does not end breaks the test off.
func TestEveryCallEnds(t *testing.T) {
	odd := []int{math.MinInt, math.MinInt + 1, -1 << 32, -65, -1, 0, 1, 4, 12, 13, 14, 32, 33, 63, 64, 65, 1 << 32, math.MaxInt}
	lists := [][]int{nil, {}, {0}, {math.MinInt}, {math.MaxInt, math.MinInt}, make([]int, 32), make([]int, 33), odd}
	texts := []string{"", "0", "1", "\x00", "\xff\xfe", "é", strings.Repeat("0", api.MaxBits), strings.Repeat("1", api.MaxBits), strings.Repeat("01", 100000)}
	for kind := range 16 {
		texts = append(texts, inBits(kind, 4)+strings.Repeat("0", 500), inBits(kind, 4)+"0000"+strings.Repeat("1", 500), inBits(kind, 4)+"0000"+strings.Repeat("01", 250))
	}
	for _, w := range odd {
		for _, l := range lists {
			if s, e := Code(w, l); e != api.OK && s != "" {
				t.Errorf("P1: Code(%d, %v) answers %q with the error %d", w, l, s, e)
			}
		}
		for _, n := range odd {
			for _, s := range texts {
				if l, k, e := Read(w, n, s); e != api.OK && (len(l) != 0 || k != 0) {
					t.Errorf("P1: Read(%d, %d, ..) answers %v, %d with the error %d", w, n, l, k, e)
				}
			}
		}
		for _, channels := range odd {
			c := rightConfig()
			c.Channels, c.Depth = channels, w
			for n := range len(lists) + 1 {
				Check(c, lists[:n])
			}
		}
	}
	for _, number := range odd {
		for channels := range 6 {
			c := configOf(channels, 4, 32)
			for n := range len(lists) + 1 {
				if s, e := Frame(c, number, lists[:n]); e != api.OK && s != "" {
					t.Errorf("P1: Frame answers %q with the error %d", s, e)
				}
			}
			for _, s := range texts {
				if l, k, e := Unframe(c, number, s); e != api.OK && (len(l) != 0 || k != 0) {
					t.Errorf("P1: Unframe answers %v, %d with the error %d", l, k, e)
				}
			}
		}
	}
	for _, s := range texts {
		Eight(s)
		Sixteen(s)
		Sum(s)
	}
	for channels := range 6 {
		for n := range len(lists) + 1 {
			if s, e := Encode(configOf(channels, 4, 32), lists[:n]); e != api.OK && s != "" {
				t.Errorf("P1: Encode answers %q with the error %d", s, e)
			}
			for _, workers := range odd {
				c := configOf(channels, 4, 32)
				c.Workers = workers
				if s, e := Pack(c, lists[:n]); e != api.OK && s != "" {
					t.Errorf("P1: Pack answers %q with the error %d", s, e)
				}
			}
		}
	}
	for channels := range 6 {
		for n := range len(lists) + 1 {
			for _, fail := range odd {
				l, e := New(configOf(channels, 4, 32), lists[:n], fail)
				if (l == nil) != (e != api.OK) {
					t.Errorf("P1: New answers %v with the error %d", l, e)
				}
				for i := 0; l != nil && i < 100; i++ {
					if n, e := l.Step(odd[i%len(odd)]); e != api.OK && n != 0 {
						t.Errorf("P1: Step answers %d with the error %d", n, e)
					}
				}
			}
		}
	}
	for _, s := range append(texts, exampleStream, exampleHead, exampleBare, emptyStream) {
		for _, at := range odd {
			if l, e := From(s, at); e != api.OK && len(l) != 0 {
				t.Errorf("P1: From answers %v with the error %d", l, e)
			}
		}
		if info, l, e := Decode(s); e != api.OK && (info != api.Info{} || len(l) != 0) {
			t.Errorf("P1: Decode answers %+v, %v with the error %d", info, l, e)
		}
		if info, l, e := Salvage(s); e != api.OK && (info != api.Info{} || len(l) != 0) {
			t.Errorf("P1: Salvage answers %+v, %v with the error %d", info, l, e)
		}
	}
}
