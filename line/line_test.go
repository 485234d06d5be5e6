package line

import (
	"slices"
	"testing"

	"reel/api"
)

func TestQueue(t *testing.T) {
	q := newQueue[int](2)
	if q.full() || q.answers() || q.count() != 0 {
		t.Error("a new queue is not empty and open")
	}
	q.put(5)
	if q.full() || !q.answers() || q.count() != 1 {
		t.Error("a queue does not hold the one thing that was put")
	}
	q.put(6)
	if !q.full() || q.count() != 2 {
		t.Error("a queue is not full with as many things as it has room for")
	}
	if v, ok := q.take(); v != 5 || !ok {
		t.Errorf("the first thing is %d, %v", v, ok)
	}
	q.close()
	if v, ok := q.take(); v != 6 || !ok {
		t.Errorf("what a closed queue holds is %d, %v", v, ok)
	}
	if !q.answers() || q.count() != 0 {
		t.Error("one who takes from an empty and closed queue is told to wait")
	}
	if v, ok := q.take(); v != 0 || ok {
		t.Errorf("an empty and closed queue gives %d, %v", v, ok)
	}
}

func TestShelf(t *testing.T) {
	var s shelf
	for _, number := range []int{4, 2, 7, 3, 5} {
		s.lay(packed{number: number})
	}
	if !slices.Equal(s.numbers(), []int{2, 3, 4, 5, 7}) {
		t.Errorf("on the shelf lie %v", s.numbers())
	}
	for number := range 4 {
		if s.beginsWith(number) != (number == 2) {
			t.Errorf("the shelf begins with %d: %v", number, s.beginsWith(number))
		}
	}
	if p := s.takeFirst(); p.number != 2 || !slices.Equal(s.numbers(), []int{3, 4, 5, 7}) {
		t.Errorf("%d is taken off, and there lie %v", p.number, s.numbers())
	}
	s.clear()
	if len(s.numbers()) != 0 || s.beginsWith(0) {
		t.Errorf("on the cleared shelf lie %v", s.numbers())
	}
}

func TestSink(t *testing.T) {
	s := sink{fail: 3}
	if !s.setHead("ab") || !s.addFrame("cd") || s.bytes() != "abcd" || s.failed {
		t.Errorf("the sink is %+v", s)
	}
	if s.addFrame("ef") || s.bytes() != "abcd" || s.writes != 3 || !s.failed {
		t.Errorf("behind a write that failed the sink is %+v", s)
	}
	s = sink{fail: 3}
	if !s.setHead("ab") || !s.addFrame("cd") || s.setHead("xy") || s.bytes() != "abcd" {
		t.Errorf("behind a head that failed the sink is %+v", s)
	}
	s = sink{}
	if !s.setHead("ab") || !s.addFrame("cd") || !s.addFrame("ef") || !s.setHead("xy") || s.bytes() != "xycdef" || s.writes != 4 {
		t.Errorf("the sink is %+v", s)
	}
}

// The tasks stand at their numbers.
func TestTasks(t *testing.T) {
	l := New(api.Config{Channels: 1, Depth: 4, Block: 1, Workers: 2, Window: 1, Room: 1}, [][]int{{1}}, 0)
	want := []task{l.splitter, l.summer, l.writer, l.workers[0], l.workers[1]}
	if !slices.Equal(l.tasks, want) || api.FirstWorker != 3 {
		t.Errorf("the tasks are %v", l.tasks)
	}
}
