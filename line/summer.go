package line

import "reel/sound"

// summer makes the sum of the sound.
type summer struct {
	common
	summed int // how many blocks it has taken
	sum    int // of these
}

func (s *summer) next() func() {
	if s.ended || !s.line.lane.answers() {
		return nil
	}
	return s.take
}

func (s *summer) take() {
	b, ok := s.line.lane.take()
	if !ok {
		s.ended = true
		return
	}
	s.sum = sound.SumOn(s.sum, b.lists)
	s.summed++
}
