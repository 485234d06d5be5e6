package line

// queue is a channel with a little beside it: a channel does not tell whether it
// is closed but to one who takes from it, and whoever only asks who is able must
// not take anything.
type queue[T any] struct {
	things chan T
	closed bool
}

func newQueue[T any](room int) *queue[T] {
	return &queue[T]{things: make(chan T, room)}
}

func (q *queue[T]) count() int {
	return len(q.things)
}

func (q *queue[T]) full() bool {
	return len(q.things) == cap(q.things)
}

// answers tells whether one who takes does not have to wait.
func (q *queue[T]) answers() bool {
	return len(q.things) > 0 || q.closed
}

// put lays a thing behind the others of a queue that is not full.
func (q *queue[T]) put(thing T) {
	q.things <- thing
}

// take takes the first thing; false, if the queue is empty and closed. It is
// asked only of a queue that answers: nobody could end the wait.
func (q *queue[T]) take() (T, bool) {
	thing, ok := <-q.things
	return thing, ok
}

func (q *queue[T]) close() {
	q.closed = true
	close(q.things)
}
