package line

// sink is what a line writes to: a head, and frames behind it.
type sink struct {
	fail   int // the number of the write that fails
	writes int // how many were tried
	failed bool
	head   string
	frames []byte
}

// setHead writes a head, in the place of the one that lies there; false, if that fails.
func (s *sink) setHead(bytes string) bool {
	if !s.try() {
		return false
	}
	s.head = bytes
	return true
}

// addFrame writes a frame behind the others; false, if that fails.
func (s *sink) addFrame(bytes string) bool {
	if !s.try() {
		return false
	}
	s.frames = append(s.frames, bytes...)
	return true
}

func (s *sink) try() bool {
	s.writes++
	if s.writes == s.fail {
		s.failed = true
	}
	return !s.failed
}

func (s *sink) bytes() string {
	return s.head + string(s.frames)
}
