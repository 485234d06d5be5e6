package reel

import (
	"fmt"
	"maps"
	"reflect"
	"slices"
	"strings"
	"testing"

	"reel/api"
)

// As streams_test.go does for streams, what stands here follows DOC.md for lines,
// and takes nothing from the program.

// model is a line whose queues are lists of the numbers of blocks.
type model struct {
	c            api.Config
	bare, laid   string // the heads
	frames       []string
	fail, writes int

	jobs, lane, ready                   []int
	jobsClosed, laneClosed, readyClosed bool
	shelf                               map[int]bool
	cancelled, failed                   bool
	given, summed, written              int
	begun                               bool
	held                                map[int]int // of a worker's task: its block
	ended                               map[int]bool
	sink                                string
}

func modelOf(c api.Config, sound [][]int, fail int) *model {
	frames := framesOf(c, sound)
	head := saidOf(c, sound, frames)
	return &model{c: c, bare: head.bare().laid(), laid: head.laid(), frames: frames, fail: fail,
		shelf: map[int]bool{}, held: map[int]int{}, ended: map[int]bool{}}
}

func (m *model) stopped() bool { return m.cancelled || m.failed }

func (m *model) over() bool { return len(m.ended) == 3+m.c.Workers }

// write makes of what the sink holds something else, unless it is the write that fails.
func (m *model) write(behind string) bool {
	m.writes++
	if m.writes == m.fail {
		m.failed = true
		clear(m.shelf)
		return false
	}
	m.sink = behind
	return true
}

// turn is the step of a task; nil, if it is not able.
func (m *model) turn(task int) func() {
	if m.ended[task] {
		return nil
	}
	switch task {
	case 0:
		return m.splitterTurn()
	case 1:
		return m.summerTurn()
	case 2:
		return m.writerTurn()
	}
	return m.workerTurn(task)
}

func (m *model) splitterTurn() func() {
	if m.stopped() || m.given == len(m.frames) {
		return func() { m.jobsClosed, m.laneClosed, m.ended[0] = true, true, true }
	}
	if len(m.jobs) < m.c.Room && len(m.lane) < m.c.Room && m.given-m.written < m.c.Window {
		return func() {
			m.jobs, m.lane = append(m.jobs, m.given), append(m.lane, m.given)
			m.given++
		}
	}
	return nil
}

func (m *model) summerTurn() func() {
	if len(m.lane) > 0 {
		return func() { m.lane, m.summed = m.lane[1:], m.summed+1 }
	}
	if m.laneClosed {
		return func() { m.ended[1] = true }
	}
	return nil
}

func (m *model) writerTurn() func() {
	if !m.begun {
		return func() {
			m.begun = true
			if !m.stopped() {
				m.write(m.bare)
			}
		}
	}
	if m.shelf[m.written] {
		return func() {
			delete(m.shelf, m.written)
			if m.write(m.sink + m.frames[m.written]) {
				m.written++
			}
		}
	}
	if len(m.ready) > 0 {
		return func() {
			if !m.stopped() {
				m.shelf[m.ready[0]] = true
			}
			m.ready = m.ready[1:]
		}
	}
	if m.readyClosed && m.ended[1] {
		return func() {
			if !m.stopped() {
				m.write(m.laid + strings.TrimPrefix(m.sink, m.bare))
			}
			m.ended[2] = true
		}
	}
	return nil
}

func (m *model) workerTurn(task int) func() {
	block, holds := m.held[task]
	if !holds && len(m.jobs) > 0 {
		return func() { m.held[task], m.jobs = m.jobs[0], m.jobs[1:] }
	}
	if !holds && m.jobsClosed {
		return func() {
			m.ended[task] = true
			m.readyClosed = true
			for other := range m.c.Workers {
				m.readyClosed = m.readyClosed && m.ended[3+other]
			}
		}
	}
	if holds && m.stopped() {
		return func() { delete(m.held, task) }
	}
	if holds && len(m.ready) < m.c.Room {
		return func() {
			m.ready = append(m.ready, block)
			delete(m.held, task)
		}
	}
	return nil
}

func (m *model) able() []int {
	var able []int
	for task := range 3 + m.c.Workers {
		if m.turn(task) != nil {
			able = append(able, task)
		}
	}
	return able
}

func (m *model) step(pick int) int {
	able := m.able()
	task := able[pick%len(able)]
	m.turn(task)()
	return task
}

func (m *model) cancel() api.Errno {
	if m.over() || m.stopped() {
		return api.ErrOver
	}
	m.cancelled = true
	clear(m.shelf)
	return api.OK
}

func (m *model) look() api.View {
	v := api.View{Given: m.given, Summed: m.summed, Written: m.written, Writes: m.writes,
		Jobs: len(m.jobs), Lane: len(m.lane), Ready: len(m.ready),
		Shelf: slices.Sorted(maps.Keys(m.shelf)), Ended: slices.Sorted(maps.Keys(m.ended))}
	for worker := range m.c.Workers {
		if block, holds := m.held[3+worker]; holds {
			v.Held = append(v.Held, block)
		} else {
			v.Held = append(v.Held, -1)
		}
	}
	if m.over() {
		v.State = 1
		if m.cancelled {
			v.State = 2
		}
		if m.failed {
			v.State = 3
		}
	}
	return v
}

// copied is a model of its own that is as this one is.
func (m *model) copied() *model {
	n := *m
	n.jobs, n.lane, n.ready = slices.Clone(m.jobs), slices.Clone(m.lane), slices.Clone(m.ready)
	n.shelf, n.held, n.ended = maps.Clone(m.shelf), maps.Clone(m.held), maps.Clone(m.ended)
	return &n
}

// place is a text that two models of one line share only if they are alike in all.
func (m *model) place() string {
	return fmt.Sprint(m.look(), m.jobs, m.lane, m.ready, m.begun, m.cancelled, m.failed, len(m.sink))
}

func sameViews(a, b api.View) bool {
	for _, l := range []*[]int{&a.Held, &a.Shelf, &a.Ended, &b.Held, &b.Shelf, &b.Ended} {
		*l = append([]int{}, *l...)
	}
	return reflect.DeepEqual(a, b)
}

// isAs holds a line against the model of it, and against P20.
func isAs(t *testing.T, l *Line, m *model) {
	t.Helper()
	if able, want := l.Able(), m.able(); !slices.Equal(able, want) {
		t.Fatalf("P14, P15: %+v: Able() = %v, want %v: %+v", m.c, able, want, m.look())
	}
	if v, want := l.Look(), m.look(); !sameViews(v, want) {
		t.Fatalf("P14, P16: %+v: Look() = %+v, want %+v", m.c, v, want)
	}
	if s := l.Bytes(); s != m.sink {
		t.Fatalf("P14, P16: %+v: Bytes() = %v, want %v", m.c, []byte(s), []byte(m.sink))
	}
	keepsItsBounds(t, l, m)
}

// keepsItsBounds is P20, and of P15 that a task is able as long as the line is not over.
func keepsItsBounds(t *testing.T, l *Line, m *model) {
	t.Helper()
	v, s := l.Look(), l.Bytes()
	begun := m.bare + strings.Join(m.frames[:v.Written], "")
	if v.State == api.Done {
		begun = m.laid + strings.Join(m.frames, "")
	}
	if s != begun && (s != "" || v.Written > 0) {
		t.Fatalf("P20: %+v: the sink holds %v: %+v", m.c, []byte(s), v)
	}
	if max(v.Jobs, v.Lane, v.Ready) > m.c.Room || v.Given-v.Written > m.c.Window {
		t.Fatalf("P20: too much is under way: %+v, %+v", m.c, v)
	}
	if (len(l.Able()) == 0) != (v.State != api.Running) || (len(v.Ended) == 3+m.c.Workers) != (v.State != api.Running) {
		t.Fatalf("P15: Able() = %v: %+v", l.Able(), v)
	}
	if m.stopped() {
		return
	}
	seen := slices.DeleteFunc(append(v.Shelf, v.Held...), func(k int) bool { return k == -1 })
	if v.Jobs+v.Ready+len(seen) != v.Given-v.Written {
		t.Fatalf("P20: a block lies in none or in two places: %+v, %+v", m.c, v)
	}
	slices.Sort(seen)
	for i, k := range seen {
		if k < v.Written || k >= v.Given || i > 0 && seen[i-1] == k {
			t.Fatalf("P20: block %d does not lie in one place: %+v, %+v", k, m.c, v)
		}
	}
}

// isOver is P19: how many steps a line has made up to its end, and what it has packed.
func isOver(t *testing.T, l *Line, m *model, steps int) {
	t.Helper()
	most := 6*len(m.frames) + m.c.Workers + 4
	if steps > most || !m.stopped() && steps < most {
		t.Errorf("P19: %+v: a line of %d blocks is over behind %d steps", m.c, len(m.frames), steps)
	}
	v := l.Look()
	if done := v.State == api.Done; done == m.stopped() || done && l.Bytes() != m.laid+strings.Join(m.frames, "") {
		t.Errorf("P19: %+v: at the end the line is %+v, and its sink holds %v", m.c, v, []byte(l.Bytes()))
	}
	if n, e := l.Step(0); n != 0 || e != api.ErrOver {
		t.Errorf("P15: Step(0) behind the end: %d, %d", n, e)
	}
	if n, e := l.Step(-1); n != 0 || e != api.ErrOver {
		t.Errorf("P15: Step(-1) behind the end: %d, %d", n, e)
	}
	if e := l.Cancel(); e != api.ErrOver {
		t.Errorf("P15: Cancel() behind the end: %d", e)
	}
}
