// Package crew packs a sound with several workers beside one another.
package crew

import (
	"sync"

	"reel/api"
	"reel/limits"
	"reel/sound"
	"reel/stream"
)

// crew is what goes between the goroutines that pack one sound.
type crew struct {
	config  api.Config
	workers []worker
	lane    chan [][]int   // blocks, to the summer
	sum     chan int       // from the summer
	running sync.WaitGroup // the goroutines that have not ended
}

// Pack is the stream of a sound of a right configuration.
func Pack(c api.Config, lists [][]int) string {
	all := newCrew(c)
	defer all.running.Wait()
	all.start(lists)
	frames := all.takeFrames()
	return stream.Join(limits.InfoOf(c, len(lists[0])), frames, <-all.sum)
}

func newCrew(c api.Config) *crew {
	all := &crew{
		config: c,
		lane:   make(chan [][]int, c.Room),
		sum:    make(chan int, 1), // the summer need not wait until it is taken
	}
	for range c.Workers {
		all.workers = append(all.workers, newWorker(c.Room))
	}
	return all
}

func (c *crew) start(lists [][]int) {
	c.running.Add(2)
	go c.split(lists)
	go c.sumUp()
	for _, w := range c.workers {
		c.running.Add(1)
		go c.work(w)
	}
}

// split gives the blocks out to the workers in turn, and all of them to the summer.
func (c *crew) split(lists [][]int) {
	defer c.running.Done()
	defer c.closeAll()
	for number := range sound.Blocks(len(lists[0]), c.config.Block) {
		b := block{number, sound.Block(lists, c.config.Block, number)}
		c.lane <- b.lists
		c.workers[number%len(c.workers)].blocks <- b
	}
}

// closeAll closes what the splitter feeds.
func (c *crew) closeAll() {
	close(c.lane)
	for _, w := range c.workers {
		close(w.blocks)
	}
}

// sumUp makes the sum of the sound.
func (c *crew) sumUp() {
	defer c.running.Done()
	defer close(c.sum)
	sum := sound.SumOfNothing
	for lists := range c.lane {
		sum = sound.SumOn(sum, lists)
	}
	c.sum <- sum
}

// takeFrames takes the frames from the workers in the turn in which these got
// their blocks: so they come in the order of the blocks, whoever is quicker.
func (c *crew) takeFrames() []string {
	var out []string
turns:
	for {
		for _, w := range c.workers {
			made, ok := <-w.frames
			if !ok {
				break turns // where the turn ends for one, no other has a frame left
			}
			out = append(out, made)
		}
	}
	return out
}
