package line

import "reel/head"

// writer lays heads and frames into the sink.
type writer struct {
	common
	begun   bool
	lengths []int // of the frames that it has written
}

func (w *writer) next() func() {
	l := w.line
	switch {
	case w.ended:
		return nil
	case !w.begun:
		return w.begin
	case l.shelf.beginsWith(w.written()):
		return w.writeFrame
	case l.ready.count() > 0 || l.ready.answers() && l.summer.ended:
		return w.take
	}
	return nil
}

// written is how many frames the sink has taken: the number of the next one, too.
func (w *writer) written() int {
	return len(w.lengths)
}

func (w *writer) begin() {
	w.begun = true
	w.writeHead(head.Unfinished(w.line.info))
}

func (w *writer) writeFrame() {
	p := w.line.shelf.takeFirst()
	if !w.line.sink.addFrame(p.bytes) {
		w.line.Stop()
		return
	}
	w.lengths = append(w.lengths, len(p.bytes))
}

func (w *writer) take() {
	p, ok := w.line.ready.take()
	if !ok {
		w.end()
		return
	}
	if !w.line.stopped {
		w.line.shelf.lay(p)
	}
}

func (w *writer) end() {
	w.ended = true
	w.writeHead(head.Finished(w.line.info, w.lengths, w.line.summer.sum))
}

// writeHead leaves the sink of a line that is stopped as it is.
func (w *writer) writeHead(h head.Head) {
	if !w.line.stopped && !w.line.sink.setHead(h.Lay()) {
		w.line.Stop()
	}
}
