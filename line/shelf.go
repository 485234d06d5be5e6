package line

import (
	"cmp"
	"slices"
)

// packed is a block's frame.
type packed struct {
	number int
	bytes  string
}

// shelf holds the frames that wait for those ahead of them, in their order.
type shelf []packed

func (s *shelf) lay(p packed) {
	place, _ := slices.BinarySearchFunc(*s, p, func(a, b packed) int { return cmp.Compare(a.number, b.number) })
	*s = slices.Insert(*s, place, p)
}

// beginsWith tells whether the first frame is that of the block with this number.
func (s shelf) beginsWith(number int) bool {
	return len(s) > 0 && s[0].number == number
}

// takeFirst takes the first frame off a shelf that is not empty.
func (s *shelf) takeFirst() packed {
	first := (*s)[0]
	*s = slices.Delete(*s, 0, 1)
	return first
}

func (s *shelf) clear() {
	*s = nil
}

func (s shelf) numbers() []int {
	var out []int
	for _, p := range s {
		out = append(out, p.number)
	}
	return out
}
