package reel

import (
	"math"
	"slices"
	"strings"
	"testing"

	"reel/api"
)

// newLine is a line of a sound, and its model.
func newLine(t *testing.T, c api.Config, sound [][]int, fail int) (*Line, *model) {
	t.Helper()
	l, e := New(c, sound, fail)
	if l == nil || e != api.OK {
		t.Fatalf("P13: New(%+v, %v, %d) = %v, %d", c, sound, fail, l, e)
	}
	return l, modelOf(c, sound, fail)
}

func exampleLine(t *testing.T, fail int) (*Line, *model) {
	t.Helper()
	return newLine(t, rightConfig(), [][]int{{6, 4, 1}}, fail)
}

// stepBoth lets a line and its model make the same step.
func stepBoth(t *testing.T, l *Line, m *model, pick int) int {
	t.Helper()
	n, e := l.Step(pick)
	if want := m.step(pick); n != want || e != api.OK {
		t.Fatalf("P15: %+v: Step(%d) = %d, %d, want %d", m.c, pick, n, e, want)
	}
	return n
}

func cancelBoth(t *testing.T, l *Line, m *model) {
	t.Helper()
	if e, want := l.Cancel(), m.cancel(); e != want {
		t.Fatalf("P15: %+v: Cancel() = %d, want %d", m.c, e, want)
	}
}

// runOut lets a line and its model step to their end, and tells how many steps that takes.
func runOut(t *testing.T, l *Line, m *model, pick func(able []int) int) int {
	t.Helper()
	steps := 0
	for !m.over() {
		isAs(t, l, m)
		stepBoth(t, l, m, pick(m.able()))
		steps++
	}
	isAs(t, l, m)
	return steps
}

func first([]int) int { return 0 }

func last(able []int) int { return len(able) - 1 }

func TestLineOfTheExample(t *testing.T) {
	l, m := exampleLine(t, 0)
	for i, c := range []struct {
		able       []int
		pick, task int
		held       []int
		size       int
	}{
		{[]int{0, 2}, 0, 0, []int{-1, -1}, 0},
		{[]int{1, 2, 3, 4}, 5, 2, []int{-1, -1}, 26},
		{[]int{1, 3, 4}, 2, 4, []int{-1, 0}, 26},
	} {
		if able := l.Able(); !slices.Equal(able, c.able) {
			t.Errorf("P15: Able() ahead of step %d is %v, want %v", i, able, c.able)
		}
		if n := stepBoth(t, l, m, c.pick); n != c.task {
			t.Errorf("P15: step %d: Step(%d) = %d, want %d", i, c.pick, n, c.task)
		}
		if v := l.Look(); !slices.Equal(v.Held, c.held) || len(l.Bytes()) != c.size {
			t.Errorf("P16: behind step %d the line is %+v, its sink has %d bytes", i, v, len(l.Bytes()))
		}
	}
	if s := l.Bytes(); s != exampleBare {
		t.Errorf("P14: the sink holds %v, want the unfinished head", []byte(s))
	}
	if steps := 3 + runOut(t, l, m, first); steps != 18 {
		t.Errorf("P19: the line is over behind %d steps, want 18", steps)
	}
	if v := l.Look(); v.State != api.Done || l.Bytes() != exampleStream {
		t.Errorf("P19: at the end the line is %+v, its sink holds %v", v, []byte(l.Bytes()))
	}
}

func TestLineWhoseFirstWriteFails(t *testing.T) {
	l, m := exampleLine(t, 1)
	if n := stepBoth(t, l, m, 1); n != api.Writer {
		t.Fatalf("P15: the first step is that of %d", n)
	}
	if v := l.Look(); l.Bytes() != "" || v.State != api.Running || v.Writes != 1 {
		t.Errorf("P13: behind the write that failed the line is %+v, its sink holds %v", v, []byte(l.Bytes()))
	}
	if e := l.Cancel(); e != api.ErrOver {
		t.Errorf("P15: Cancel() of a line that failed: %d", e)
	}
	runOut(t, l, m, first)
	if v := l.Look(); v.State != api.Failed || l.Bytes() != "" || v.Writes != 1 {
		t.Errorf("P16: at the end the line is %+v, its sink holds %v", v, []byte(l.Bytes()))
	}
}

func TestLineCancelledAtTheBeginning(t *testing.T) {
	for _, pick := range []func([]int) int{first, last} {
		l, m := exampleLine(t, 0)
		cancelBoth(t, l, m)
		if e := l.Cancel(); e != api.ErrOver {
			t.Errorf("P15: Cancel() again: %d", e)
		}
		if able := l.Able(); !slices.Equal(able, []int{0, 2}) {
			t.Errorf("P15: Able() = %v, want [0 2]", able)
		}
		if steps := runOut(t, l, m, pick); steps != 6 {
			t.Errorf("P19: the line is over behind %d steps, want 6", steps)
		}
		if v := l.Look(); v.State != api.Cancelled || l.Bytes() != "" || v.Writes != 0 {
			t.Errorf("P16: at the end the line is %+v, its sink holds %v", v, []byte(l.Bytes()))
		}
	}
}

// explore goes every way that a line can go, Cancel at every place too, and tells
// how many places there are. A line can't be copied: it goes the whole way anew.
func explore(t *testing.T, c api.Config, sound [][]int, fail int) int {
	t.Helper()
	const cancelling = -1
	type trail struct {
		picks []int
		m     *model
	}
	begin := modelOf(c, sound, fail)
	seen := map[string]bool{begin.place(): true}
	for open := []trail{{nil, begin}}; len(open) > 0; open = open[1:] {
		here := open[0]
		for pick := cancelling; pick < len(here.m.able()); pick++ {
			l, e := New(c, sound, fail)
			if e != api.OK {
				t.Fatalf("P13: New(%+v, %v, %d): %d", c, sound, fail, e)
			}
			for _, p := range here.picks {
				if p == cancelling {
					l.Cancel()
				} else {
					l.Step(p)
				}
			}
			m := here.m.copied()
			if pick == cancelling {
				cancelBoth(t, l, m)
			} else {
				stepBoth(t, l, m, pick)
			}
			isAs(t, l, m)
			picks := append(slices.Clone(here.picks), pick)
			if m.over() {
				isOver(t, l, m, len(slices.DeleteFunc(slices.Clone(picks), func(p int) bool { return p == cancelling })))
			}
			if !seen[m.place()] {
				seen[m.place()] = true
				open = append(open, trail{picks, m})
			}
		}
	}
	return len(seen)
}

func TestEveryWayOfSmallLines(t *testing.T) {
	for _, s := range []struct{ blocks, workers, window, room int }{
		{0, 1, 1, 1}, {0, 3, 2, 2}, {1, 1, 1, 1}, {1, 2, 2, 2}, {2, 2, 2, 1}, {3, 1, 3, 1}, {3, 2, 2, 2}, {3, 2, 3, 1},
	} {
		c := rightConfig()
		c.Block, c.Workers, c.Window, c.Room = 1, s.workers, s.window, s.room
		sound := [][]int{[]int{6, -4, 1}[:s.blocks]}
		for fail := range s.blocks + 3 {
			if n := explore(t, c, sound, fail); n < 6 || s.blocks > 1 && n < 100 {
				t.Errorf("there are but %d places that a line of %+v comes to", n, s)
			}
		}
	}
}

// picker chooses tasks: any, mostly the first or the last ones, or for a while none but one.
func picker(r *ruler) func(able []int) int {
	switch style := r.below(5); style {
	case 0:
		return first
	case 1:
		return last
	case 2:
		shunned := r.below(6)
		return func(able []int) int {
			pick := r.below(len(able))
			if able[pick] == shunned {
				pick++
			}
			return pick
		}
	case 3:
		return func(able []int) int { return min(r.below(len(able)), r.below(len(able))) }
	}
	return func([]int) int { return r.below(1000000) }
}

func anyLine(t *testing.T, r *ruler, samples, fail int) (*Line, *model) {
	t.Helper()
	c := anyConfig(r)
	c.Workers, c.Window, c.Room = 1+r.below(8), 1+r.below(16), 1+r.below(8)
	if r.below(2) == 0 {
		c.Window, c.Room = 1+r.below(3), 1+r.below(2)
	}
	return newLine(t, c, anySound(r, c, samples), fail)
}

// P19: whichever tasks were picked, a line that is never stopped packs what Encode packs.
func TestLinesThatAreNeverStopped(t *testing.T) {
	r := ruler(30)
	for round := range 400 {
		l, m := anyLine(t, &r, r.below(25), -round)
		steps := runOut(t, l, m, picker(&r))
		isOver(t, l, m, steps)
		if v := l.Look(); v.State != api.Done || v.Written != len(m.frames) || v.Summed != len(m.frames) || v.Writes != len(m.frames)+2 {
			t.Errorf("P16: %+v: at the end the line is %+v", m.c, v)
		}
	}
}

func TestLinesThatAreCancelled(t *testing.T) {
	r := ruler(31)
	for range 400 {
		l, m := anyLine(t, &r, r.below(25), 0)
		pick := picker(&r)
		ahead := r.below(6*len(m.frames) + m.c.Workers + 4)
		for range ahead {
			isAs(t, l, m)
			stepBoth(t, l, m, pick(m.able()))
		}
		before := l.Bytes()
		cancelBoth(t, l, m)
		if v := l.Look(); len(v.Shelf) != 0 || l.Bytes() != before || v.State != api.Running {
			t.Fatalf("P14: behind Cancel() the line is %+v, its sink holds %v", v, []byte(l.Bytes()))
		}
		isOver(t, l, m, ahead+runOut(t, l, m, picker(&r)))
		if v := l.Look(); v.State != api.Cancelled || l.Bytes() != before {
			t.Errorf("P16: %+v: at the end the line is %+v, its sink holds %v", m.c, v, []byte(l.Bytes()))
		}
	}
}

// The writes are the unfinished head, the frames in their order, and the finished head.
func TestLinesOfWhichAWriteFails(t *testing.T) {
	r := ruler(32)
	for round := range 400 {
		fail := 1 + round%12
		l, m := anyLine(t, &r, r.below(25), fail)
		isOver(t, l, m, runOut(t, l, m, picker(&r)))
		if fail > len(m.frames)+2 {
			if v := l.Look(); v.State != api.Done {
				t.Errorf("P13: %+v: write %d was not made, and the line is %+v", m.c, fail, v)
			}
			continue
		}
		held := ""
		if fail > 1 {
			held = m.bare + strings.Join(m.frames[:fail-2], "")
		}
		if v := l.Look(); v.State != api.Failed || l.Bytes() != held || v.Writes != fail || v.Written != max(0, fail-2) {
			t.Errorf("P13: %+v: write %d failed, and the line is %+v, its sink holds %v", m.c, fail, v, []byte(l.Bytes()))
		}
	}
}

// The last write fails: all tasks have ended with it, and nothing is finished.
func TestLineWhoseLastWriteFails(t *testing.T) {
	l, m := exampleLine(t, 4)
	isOver(t, l, m, runOut(t, l, m, first))
	if v := l.Look(); v.State != api.Failed || v.Written != 2 || v.Writes != 4 || l.Bytes() != exampleBare+exampleFrames[0]+exampleFrames[1] {
		t.Errorf("P14: at the end the line is %+v, its sink holds %v", v, []byte(l.Bytes()))
	}
}

func TestLinesWithoutAFailingWrite(t *testing.T) {
	for _, fail := range []int{math.MinInt, -1, 0, 5, 6, math.MaxInt} {
		l, m := exampleLine(t, fail)
		isOver(t, l, m, runOut(t, l, m, last))
		if v := l.Look(); v.State != api.Done || l.Bytes() != exampleStream {
			t.Errorf("P13: with fail %d the line is %+v at the end", fail, v)
		}
	}
}

// A line holds no more than its room and its window allow: the splitter alone steps.
func TestLinesFillUp(t *testing.T) {
	for _, c := range []struct{ window, room, given int }{{1, 8, 1}, {16, 1, 1}, {16, 8, 8}, {3, 8, 3}, {8, 8, 8}, {9, 8, 8}, {7, 8, 7}} {
		config := rightConfig()
		config.Block, config.Window, config.Room = 1, c.window, c.room
		l, m := newLine(t, config, silent(1, 20), 0)
		for l.Able()[0] == api.Splitter {
			stepBoth(t, l, m, 0)
			isAs(t, l, m)
		}
		if v := l.Look(); v.Given != c.given || v.Jobs != c.given || v.Lane != c.given {
			t.Errorf("P14: with Window %d and Room %d the splitter gives out %+v", c.window, c.room, v)
		}
	}
}

// Frames that are ready wait for the first block, up to all that may be under way.
func TestShelfBehindASlowWorker(t *testing.T) {
	c := rightConfig()
	c.Block, c.Workers, c.Window, c.Room = 1, 8, 16, 8
	l, m := newLine(t, c, silent(1, 40), 0)
	steps := 0
	step := func(task int) {
		stepBoth(t, l, m, slices.Index(m.able(), task))
		isAs(t, l, m)
		steps++
	}
	slow := api.FirstWorker
	step(api.Splitter)
	step(slow)
	for {
		others := slices.DeleteFunc(m.able(), func(task int) bool { return task == slow })
		if len(others) == 0 {
			break
		}
		step(others[len(others)-1])
	}
	v := l.Look()
	if v.Held[0] != 0 || v.Given != 16 || v.Written != 0 || len(v.Shelf) != 15 || v.Shelf[0] != 1 || v.Shelf[14] != 15 {
		t.Errorf("P14: behind a slow worker the line is %+v", v)
	}
	isOver(t, l, m, steps+runOut(t, l, m, first))
}

// The longest lines there are.
func TestLongLines(t *testing.T) {
	r := ruler(33)
	for _, c := range []api.Config{
		{Channels: 1, Depth: 4, Block: 1, Seek: 255, Workers: 1, Window: 1, Room: 1},
		{Channels: 2, Depth: 5, Block: 1, Rate: 65535, Seek: 1, Workers: 8, Window: 16, Room: 8},
		{Channels: 4, Depth: 12, Block: 32, Seek: 2, Workers: 3, Window: 4, Room: 2},
	} {
		l, m := newLine(t, c, anySound(&r, c, 300), 0)
		isOver(t, l, m, runOut(t, l, m, func([]int) int { return r.below(1000) }))
	}
}

// The task at the place pick modulo the count of those that are able steps.
func TestStepPicksByTheRemainder(t *testing.T) {
	for _, pick := range []int{0, 1, 2, 3, 4, 5, 6, 7, 1000, 1001, math.MaxInt - 1, math.MaxInt} {
		l, m := exampleLine(t, 0)
		stepBoth(t, l, m, 0)
		want := []int{1, 2, 3, 4}[pick%4]
		if n, e := l.Step(pick); n != want || e != api.OK {
			t.Errorf("P15: Step(%d) = %d, %d, want %d", pick, n, e, want)
		}
	}
}

// With an error nothing is changed.
func TestStepsThatMayNotBe(t *testing.T) {
	l, m := exampleLine(t, 0)
	for !m.over() {
		for _, pick := range []int{-1, -2, -5, math.MinInt} {
			if n, e := l.Step(pick); n != 0 || e != api.ErrArg {
				t.Errorf("P15: Step(%d) = %d, %d, want ErrArg", pick, n, e)
			}
		}
		isAs(t, l, m)
		stepBoth(t, l, m, 0)
	}
	for _, pick := range []int{-1, math.MinInt, 0, 1, math.MaxInt} {
		if n, e := l.Step(pick); n != 0 || e != api.ErrOver {
			t.Errorf("P15: Step(%d) behind the end = %d, %d, want ErrOver", pick, n, e)
		}
	}
	if e := l.Cancel(); e != api.ErrOver {
		t.Errorf("P15: Cancel() behind the end = %d, want ErrOver", e)
	}
	isAs(t, l, m)
}

func TestNewErrorsInTheirOrder(t *testing.T) {
	for i, c := range wrongSounds() {
		for _, fail := range []int{math.MinInt, 0, 1, math.MaxInt} {
			if l, e := New(c.c, c.sound, fail); l != nil || e != c.want {
				t.Errorf("P13: call %d: %v, %d, want %d", i, l, e, c.want)
			}
		}
	}
}

// A line is not moved by what its calls are asked, only by steps and Cancel.
func TestLookingChangesNothing(t *testing.T) {
	l, m := exampleLine(t, 0)
	for !m.over() {
		for range 3 {
			isAs(t, l, m)
		}
		stepBoth(t, l, m, 1)
	}
	for range 3 {
		isAs(t, l, m)
	}
}
