package crew

import (
	"runtime"
	"slices"
	"strconv"
	"strings"
	"testing"
	"testing/synctest"

	"reel/api"
	"reel/frame"
	"reel/sound"
	"reel/stream"
)

func configOf(workers, room int) api.Config {
	return api.Config{Channels: 2, Depth: 6, Block: 2, Rate: 8, Seek: 1, Workers: workers, Window: 1, Room: room}
}

// slope has two channels, with n samples each, whose blocks are unlike their neighbours.
func slope(n int) [][]int {
	lists := make([][]int, 2)
	for i := range n {
		lists[0] = append(lists[0], i%64-32)
		lists[1] = append(lists[1], i*i%64-32)
	}
	return lists
}

func sameLists(a, b [][]int) bool {
	return slices.EqualFunc(a, b, slices.Equal[[]int])
}

// In a bubble of synctest whoever waits for ever breaks the test off.
func TestEachGoroutine(t *testing.T) {
	for name, test := range map[string]func(t *testing.T){
		"split": splits, "work": works, "sum": sumsUp, "leave by a panic": leavesByPanic,
	} {
		t.Run(name, func(t *testing.T) { synctest.Test(t, test) })
	}
}

// Block k goes to the worker k modulo Workers, and every block to the summer.
func splits(t *testing.T) {
	for workers := 1; workers <= api.MaxWorkers; workers++ {
		for _, n := range []int{0, 1, 2, 3, 15, 16, 17, 18, 40} {
			lists := slope(n)
			c := newCrew(configOf(workers, 50))
			c.running.Add(1)
			c.split(lists)
			c.running.Wait()
			number := 0
			for got := range c.lane {
				want := sound.Block(lists, 2, number)
				given, ok := <-c.workers[number%workers].blocks
				if !ok || given.number != number || !sameLists(given.lists, want) || !sameLists(got, want) {
					t.Errorf("P17: block %d to %d workers: %v, %v, %v, want %v", number, workers, given, ok, got, want)
				}
				number++
			}
			if number != sound.Blocks(n, 2) {
				t.Errorf("P17: the summer gets %d blocks of %d samples", number, n)
			}
			for i, w := range c.workers {
				if given, ok := <-w.blocks; ok {
					t.Errorf("P17: worker %d of %d gets %v too", i, workers, given)
				}
			}
		}
	}
}

func works(t *testing.T) {
	c := newCrew(configOf(1, 5))
	lists := slope(9)
	for number := range 5 {
		c.workers[0].blocks <- block{number, sound.Block(lists, 2, number)}
	}
	close(c.workers[0].blocks)
	c.running.Add(1)
	c.work(c.workers[0])
	c.running.Wait()
	number := 0
	for made := range c.workers[0].frames {
		if made != frame.Make(c.config, number, sound.Block(lists, 2, number)) {
			t.Errorf("P17: the frame of block %d is %v", number, []byte(made))
		}
		number++
	}
	if number != 5 {
		t.Errorf("P17: of five blocks %d frames are made", number)
	}
}

func sumsUp(t *testing.T) {
	for _, n := range []int{0, 1, 2, 9} {
		c := newCrew(configOf(1, 5))
		lists := slope(n)
		for number := range sound.Blocks(n, 2) {
			c.lane <- sound.Block(lists, 2, number)
		}
		close(c.lane)
		c.running.Add(1)
		c.sumUp()
		c.running.Wait()
		if sum, ok := <-c.sum; sum != sound.Sum(lists) || !ok {
			t.Errorf("P17: the sum of %d samples is %d, %v, want %d", n, sum, ok, sound.Sum(lists))
		}
		if sum, ok := <-c.sum; ok {
			t.Errorf("P17: %d is told behind the sum", sum)
		}
	}
}

// The frames are taken in turn, though the workers are ready the other way round.
func TestTakeFrames(t *testing.T) {
	for workers := 1; workers <= api.MaxWorkers; workers++ {
		for n := range 2*workers + 2 {
			synctest.Test(t, func(t *testing.T) {
				c := newCrew(configOf(workers, 50))
				var got []string
				c.running.Go(func() { got = c.takeFrames() })
				for i := workers - 1; i >= 0; i-- {
					for k := i; k < n; k += workers {
						c.workers[i].frames <- strconv.Itoa(k)
					}
					close(c.workers[i].frames)
					synctest.Wait()
				}
				c.running.Wait()
				for k := range n {
					if k >= len(got) || got[k] != strconv.Itoa(k) {
						t.Fatalf("P17: of %d frames of %d workers %v are taken", n, workers, got)
					}
				}
				if len(got) != n {
					t.Errorf("P17: of %d frames of %d workers %d are taken", n, workers, len(got))
				}
			})
		}
	}
}

// goroutinesIn is how many goroutines have a method of the crew under way. (The
// library's count of goroutines may still have some that have ended.)
func goroutinesIn(method string) int {
	stacks := make([]byte, 1<<20)
	stacks = stacks[:runtime.Stack(stacks, true)]
	return strings.Count(string(stacks), "reel/crew.(*crew)."+method+"(")
}

// As long as no frame is taken, all that can go on does so until it is full: the
// workers, the splitter and the summer wait then, each a goroutine of its own.
func TestGoroutines(t *testing.T) {
	for workers := 1; workers <= api.MaxWorkers; workers++ {
		for _, room := range []int{1, api.MaxRoom} {
			synctest.Test(t, func(t *testing.T) {
				c := newCrew(configOf(workers, room))
				c.start(slope(300))
				synctest.Wait()
				counts := [3]int{goroutinesIn("split"), goroutinesIn("sumUp"), goroutinesIn("work")}
				if counts != [3]int{1, 1, workers} {
					t.Errorf("P17: for %d workers there are %v goroutines", workers, counts)
				}
				for i, w := range c.workers {
					if len(w.frames) != room || cap(w.frames) != room || cap(w.blocks) != room {
						t.Errorf("P17: worker %d of %d has %d frames ready", i, workers, len(w.frames))
					}
				}
				if frames := c.takeFrames(); len(frames) != 150 {
					t.Errorf("P17: %d frames are taken", len(frames))
				}
				c.running.Wait()
			})
		}
	}
}

// Nothing stays behind Pack, and it hangs at no count of workers and no room.
func TestPackEnds(t *testing.T) {
	for workers := 1; workers <= api.MaxWorkers; workers++ {
		for room := 1; room <= api.MaxRoom; room++ {
			for _, n := range []int{0, 1, 2, 3, 2 * workers, 2*workers + 1, 90} {
				synctest.Test(t, func(t *testing.T) {
					c, lists := configOf(workers, room), slope(n)
					if Pack(c, lists) != stream.Encode(c, lists) {
						t.Errorf("P17: %d samples of %+v are packed otherwise", n, c)
					}
				})
			}
		}
	}
}

// panics tells whether a call does, and so leaves by the way that nobody asked for.
func panics(call func()) (out bool) {
	defer func() { out = recover() != nil }()
	call()
	return false
}

// Whichever way a goroutine leaves, whoever waits for it goes on.
func leavesByPanic(t *testing.T) {
	c := newCrew(configOf(1, 5))
	c.running.Add(3)
	c.workers[0].blocks <- block{0, nil}
	if !panics(func() { c.work(c.workers[0]) }) {
		t.Error("a worker makes a frame of no lists")
	}
	if made, ok := <-c.workers[0].frames; ok {
		t.Errorf("the worker told %v", made)
	}
	c.lane <- nil
	if !panics(c.sumUp) {
		t.Error("the summer sums no lists up")
	}
	if sum, ok := <-c.sum; ok {
		t.Errorf("the summer told %d", sum)
	}
	if !panics(func() { c.split([][]int{{1, 2, 3, 4, 5, 6}, {1}}) }) {
		t.Error("the splitter splits lists that are no sound")
	}
	for range c.workers[0].blocks {
	}
	for range c.lane {
	}
	c.running.Wait()
}
