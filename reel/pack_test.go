package reel

import (
	"sync"
	"testing"
	"testing/synctest"

	"reel/api"
)

// checkPack holds Pack against the document and against Encode. A Pack that
// hangs, or leaves a goroutine that does, breaks the test off.
func checkPack(t *testing.T, c api.Config, sound [][]int) string {
	t.Helper()
	var s string
	var e api.Errno
	synctest.Test(t, func(*testing.T) { s, e = Pack(c, sound) })
	if want := streamOf(c, sound); s != want || e != api.OK {
		t.Errorf("P17: Pack(%+v, %v) = %v, %d, want %v", c, sound, brief(s), e, brief(want))
	}
	if encoded, _ := Encode(c, sound); s != encoded {
		t.Errorf("P17: Pack(%+v, %v) is not what Encode answers", c, sound)
	}
	return s
}

func TestPackExamples(t *testing.T) {
	if s := checkPack(t, rightConfig(), [][]int{{6, 4, 1}}); s != exampleStream {
		t.Errorf("P17: Pack(E, [[6 4 1]]) = %v", []byte(s))
	}
	for _, l := range [][]int{nil, {}} {
		for workers := 1; workers <= api.MaxWorkers; workers++ {
			c := configOf(1, 4, 1)
			c.Workers = workers
			if s := checkPack(t, c, [][]int{l}); s != emptyStream {
				t.Errorf("P17: an empty sound: %v", []byte(s))
			}
		}
	}
}

func TestPackOfManySounds(t *testing.T) {
	r := ruler(37)
	for range 300 {
		c := anyConfig(&r)
		c.Workers, c.Window, c.Room = 1+r.below(8), 1+r.below(16), 1+r.below(8)
		sound := anySound(&r, c, r.below(40))
		comesBack(t, c, sound, checkPack(t, c, sound))
	}
}

// Fewer blocks than workers, as many, and a block more or less than whole turns.
func TestPackOfEachCountOfWorkers(t *testing.T) {
	r := ruler(38)
	for workers := 1; workers <= api.MaxWorkers; workers++ {
		for _, room := range []int{1, 2, api.MaxRoom} {
			for blocks := range 2*workers + 2 {
				c := configOf(1+blocks%4, 5, 2)
				c.Seek, c.Workers, c.Room = blocks%3, workers, room
				checkPack(t, c, anySound(&r, c, max(2*blocks-r.below(2), 0)))
			}
		}
	}
}

// Blocks that take long beside blocks that are soon made.
func TestPackOfUnlikeBlocks(t *testing.T) {
	r := ruler(39)
	for workers := 1; workers <= api.MaxWorkers; workers++ {
		c := configOf(2, 12, 32)
		c.Seek, c.Workers = 1, workers
		sound := anySound(&r, c, api.MaxSamples)
		for _, l := range sound {
			for k := range 9 {
				if k%workers != 0 {
					clear(l[32*k : 32*k+32])
				}
			}
		}
		checkPack(t, c, sound)
	}
}

// The longest sounds there are.
func TestLongPacks(t *testing.T) {
	r := ruler(40)
	for _, c := range []api.Config{
		{Channels: 1, Depth: 4, Block: 1, Seek: 255, Workers: 1, Window: 1, Room: 1},
		{Channels: 1, Depth: 4, Block: 1, Seek: 1, Workers: 8, Window: 1, Room: 1},
		{Channels: 2, Depth: 5, Block: 1, Rate: 65535, Seek: 1, Workers: 8, Window: 16, Room: 8},
		{Channels: 4, Depth: 12, Block: 32, Seek: 2, Workers: 3, Window: 4, Room: 2},
		{Channels: 4, Depth: 12, Block: 1, Rate: 65535, Seek: 1, Workers: 7, Window: 16, Room: 1},
	} {
		checkPack(t, c, anySound(&r, c, api.MaxSamples))
	}
}

// Workers, Window and Room say how it is packed, not what comes out.
func TestPackHangsOnWhatItIsGiven(t *testing.T) {
	for workers := 1; workers <= api.MaxWorkers; workers++ {
		for window := 1; window <= api.MaxWindow; window++ {
			for room := 1; room <= api.MaxRoom; room++ {
				c := rightConfig()
				c.Workers, c.Window, c.Room = workers, window, room
				if s, e := Pack(c, [][]int{{6, 4, 1}}); s != exampleStream || e != api.OK {
					t.Errorf("P17: with %d, %d, %d Pack answers %v, %d", workers, window, room, []byte(s), e)
				}
			}
		}
	}
}

// Calls beside one another, of one sound, have nothing to do with one another.
func TestPacksBesideOneAnother(t *testing.T) {
	r := ruler(41)
	var running sync.WaitGroup
	sound := anySound(&r, configOf(3, 6, 1), 50)
	for i := range 64 {
		c := configOf(3, 6, 1+i%5)
		c.Seek, c.Workers, c.Room = i%3, 1+i%8, 1+i%3
		want := streamOf(c, sound)
		running.Go(func() {
			for range 5 {
				if s, e := Pack(c, sound); s != want || e != api.OK {
					t.Errorf("P2: beside others Pack(%+v, ..) = %v, %d", c, brief(s), e)
				}
			}
		})
	}
	running.Wait()
}

func TestPackErrorsInTheirOrder(t *testing.T) {
	for i, c := range wrongSounds() {
		if s, e := Pack(c.c, c.sound); s != "" || e != c.want {
			t.Errorf("P17: call %d: %q, %d, want %d", i, s, e, c.want)
		}
	}
}
