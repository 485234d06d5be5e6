package line

// task is one of those that step beside one another. Whether it is able and what
// it does then is told at one place, so that the two can't fall apart.
type task interface {
	next() func() // the step that it is able to make; nil, if it is not able
	hasEnded() bool
}

// common is what all tasks have.
type common struct {
	line  *Line
	ended bool
}

func (c *common) hasEnded() bool {
	return c.ended
}
