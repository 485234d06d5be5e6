package line

import "reel/frame"

// nothing stands for the number of a block where there is none.
const nothing = -1

// worker makes frames of blocks.
type worker struct {
	common
	held *block // nil, if it holds nothing
}

func (w *worker) next() func() {
	l := w.line
	switch {
	case w.ended:
		return nil
	case w.held == nil && l.jobs.answers():
		return w.take
	case w.held != nil && l.stopped:
		return w.letGo
	case w.held != nil && !l.ready.full():
		return w.handOn
	}
	return nil
}

func (w *worker) take() {
	b, ok := w.line.jobs.take()
	if !ok {
		w.end()
		return
	}
	w.held = &b
}

// end closes ready only behind the last worker: until then others may put frames there.
func (w *worker) end() {
	w.ended = true
	for _, other := range w.line.workers {
		if !other.ended {
			return
		}
	}
	w.line.ready.close()
}

func (w *worker) letGo() {
	w.held = nil
}

func (w *worker) handOn() {
	made := frame.Make(w.line.config, w.held.number, w.held.lists)
	w.line.ready.put(packed{w.held.number, made})
	w.held = nil
}

// holds is the number of the block that the worker holds.
func (w *worker) holds() int {
	if w.held == nil {
		return nothing
	}
	return w.held.number
}
