// Package line packs the blocks of a sound with several workers, a step at a time.
package line

import (
	"slices"

	"reel/api"
	"reel/limits"
	"reel/sound"
)

// block is a piece of the sound, with its number.
type block struct {
	number int
	lists  [][]int
}

// Line is a line of one sound: what its tasks hand on to one another, and the tasks.
type Line struct {
	config  api.Config
	info    api.Info
	jobs    *queue[block]  // to the workers
	lane    *queue[block]  // to the summer
	ready   *queue[packed] // to the writer
	shelf   shelf
	sink    sink
	stopped bool

	splitter *splitter
	summer   *summer
	writer   *writer
	workers  []*worker
	tasks    []task // all of these, by their numbers
}

// New is a line of a sound of a right configuration; the write of the number fail fails.
func New(c api.Config, lists [][]int, fail int) *Line {
	l := &Line{
		config: c,
		info:   limits.InfoOf(c, len(lists[0])),
		jobs:   newQueue[block](c.Room),
		lane:   newQueue[block](c.Room),
		ready:  newQueue[packed](c.Room),
		sink:   sink{fail: fail},
	}
	l.splitter = &splitter{common: common{line: l}, lists: copied(lists)}
	l.summer = &summer{common: common{line: l}, sum: sound.SumOfNothing}
	l.writer = &writer{common: common{line: l}}
	l.tasks = []task{api.Splitter: l.splitter, api.Summer: l.summer, api.Writer: l.writer}
	for range c.Workers {
		w := &worker{common: common{line: l}}
		l.workers = append(l.workers, w)
		l.tasks = append(l.tasks, w)
	}
	return l
}

// copied is a copy that stays as it is when the caller writes into the lists.
func copied(lists [][]int) [][]int {
	out := make([][]int, len(lists))
	for channel, l := range lists {
		out[channel] = slices.Clone(l)
	}
	return out
}

// Able are the numbers of the tasks that are able to step, rising.
func (l *Line) Able() []int {
	return l.tasksThat(func(t task) bool { return t.next() != nil })
}

// Step lets one of the tasks that are able make its step, and tells its number.
// The line is not over, and pick is not below 0.
func (l *Line) Step(pick int) int {
	able := l.Able()
	number := able[pick%len(able)]
	l.tasks[number].next()()
	return number
}

// Stop breaks the line off: what was written stays, and no more is written.
func (l *Line) Stop() {
	l.stopped = true
	l.shelf.clear()
}

// Stopped tells whether the line was broken off.
func (l *Line) Stopped() bool {
	return l.stopped
}

// Over tells whether all tasks have ended.
func (l *Line) Over() bool {
	return len(l.tasksThat(task.hasEnded)) == len(l.tasks)
}

// Look is the line as it is.
func (l *Line) Look() api.View {
	return api.View{
		State:   l.state(),
		Given:   l.splitter.given,
		Summed:  l.summer.summed,
		Written: l.writer.written(),
		Writes:  l.sink.writes,
		Jobs:    l.jobs.count(),
		Lane:    l.lane.count(),
		Ready:   l.ready.count(),
		Held:    l.held(),
		Shelf:   l.shelf.numbers(),
		Ended:   l.tasksThat(task.hasEnded),
	}
}

// Bytes are what the sink holds.
func (l *Line) Bytes() string {
	return l.sink.bytes()
}

// tasksThat are the numbers of the tasks of which something holds, rising.
func (l *Line) tasksThat(holds func(t task) bool) []int {
	var out []int
	for number, t := range l.tasks {
		if holds(t) {
			out = append(out, number)
		}
	}
	return out
}

func (l *Line) state() int {
	switch {
	case !l.Over():
		return api.Running
	case !l.stopped:
		return api.Done
	case l.sink.failed:
		return api.Failed
	}
	return api.Cancelled
}

// held is, of each worker, the number of the block that it holds.
func (l *Line) held() []int {
	var out []int
	for _, w := range l.workers {
		out = append(out, w.holds())
	}
	return out
}

// blocks is how many blocks the sound has.
func (l *Line) blocks() int {
	return sound.Blocks(l.info.Samples, l.info.Block)
}

// underWay is how many blocks were given out, but not written yet.
func (l *Line) underWay() int {
	return l.splitter.given - l.writer.written()
}
