package sound

import (
	"slices"
	"testing"
)

func TestBlocks(t *testing.T) {
	for _, c := range []struct{ samples, size, want int }{{0, 1, 0}, {0, 32, 0}, {1, 32, 1}, {31, 32, 1}, {32, 32, 1}, {33, 32, 2}, {300, 1, 300}, {300, 32, 10}} {
		if n := Blocks(c.samples, c.size); n != c.want {
			t.Errorf("%d samples have %d blocks of %d, want %d", c.samples, n, c.size, c.want)
		}
	}
}

// The blocks, one behind the other, are the sound.
func TestBlocksAreTheSound(t *testing.T) {
	for samples := range 20 {
		l := make([]int, samples)
		for i := range l {
			l[i] = i
		}
		for size := 1; size <= 8; size++ {
			var all [2][]int
			for number := range Blocks(samples, size) {
				block := Block([][]int{l, l}, size, number)
				for channel := range all {
					if len(block[channel]) != BlockSamples(samples, size, number) || len(block[channel]) == 0 {
						t.Errorf("block %d of %d samples by %d has %d", number, samples, size, len(block[channel]))
					}
					all[channel] = append(all[channel], block[channel]...)
				}
			}
			if !slices.Equal(all[0], l) || !slices.Equal(all[1], l) {
				t.Errorf("%d samples by %d are cut into %v", samples, size, all)
			}
		}
	}
}

func TestSum(t *testing.T) {
	for _, c := range []struct {
		lists [][]int
		want  int
	}{
		{[][]int{{}}, 1}, {[][]int{nil, nil}, 1}, {[][]int{{6, 4, 1}}, 3932172},
		// The bytes are 1 0, 2 0: a is 2, 2, 4, 4, and b their sum.
		{[][]int{{1, 2}}, 12*65536 + 4}, {[][]int{{1}, {2}}, 12*65536 + 4},
		// The bytes are 255 255.
		{[][]int{{-1}}, (256+511)*65536 + 511},
		// The bytes are 1 2, the lowest first.
		{[][]int{{513}}, (2+4)*65536 + 4},
	} {
		if n := Sum(c.lists); n != c.want {
			t.Errorf("the sum of %v is %d, want %d", c.lists, n, c.want)
		}
	}
}

// Block by block the sum is that of the whole.
func TestSumOn(t *testing.T) {
	lists := [][]int{{1, -2, 300, -2048, 2047, 0, -1}, {5, 700, -2000, 9, -9, 255, 256}}
	for size := 1; size <= 8; size++ {
		sum := SumOfNothing
		for number := range Blocks(7, size) {
			sum = SumOn(sum, Block(lists, size, number))
		}
		if sum != Sum(lists) {
			t.Errorf("by blocks of %d the sum is %d, want %d", size, sum, Sum(lists))
		}
	}
}
