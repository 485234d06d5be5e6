package crew

import "reel/frame"

// block is a piece of the sound, with its number.
type block struct {
	number int
	lists  [][]int
}

// worker has channels of its own, so that it is settled which worker makes which frame.
type worker struct {
	blocks chan block  // to it
	frames chan string // from it, in the order of the blocks
}

func newWorker(room int) worker {
	return worker{blocks: make(chan block, room), frames: make(chan string, room)}
}

// work makes frames of the blocks that come to a worker.
func (c *crew) work(w worker) {
	defer c.running.Done()
	defer close(w.frames)
	for b := range w.blocks {
		w.frames <- frame.Make(c.config, b.number, b.lists)
	}
}
