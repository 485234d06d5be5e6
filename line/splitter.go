package line

import "reel/sound"

// splitter gives the blocks out.
type splitter struct {
	common
	lists [][]int // the sound
	given int     // how many blocks it has given out
}

func (s *splitter) next() func() {
	l := s.line
	switch {
	case s.ended:
		return nil
	case l.stopped || s.given == l.blocks():
		return s.end
	case !l.jobs.full() && !l.lane.full() && l.underWay() < l.config.Window:
		return s.giveOut
	}
	return nil
}

func (s *splitter) end() {
	s.line.jobs.close()
	s.line.lane.close()
	s.ended = true
}

func (s *splitter) giveOut() {
	b := block{s.given, sound.Block(s.lists, s.line.config.Block, s.given)}
	s.line.jobs.put(b)
	s.line.lane.put(b)
	s.given++
}
