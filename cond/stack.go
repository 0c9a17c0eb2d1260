package cond

// stack holds things of which the one that came last is asked and taken first.
type stack[T any] struct {
	things []T
}

func (s *stack[T]) push(thing T) {
	s.things = append(s.things, thing)
}

// top is nil if the stack is empty; else it is good up to the next push.
func (s *stack[T]) top() *T {
	if len(s.things) == 0 {
		return nil
	}
	return &s.things[len(s.things)-1]
}

// pop must not be asked of an empty stack.
func (s *stack[T]) pop() T {
	last := len(s.things) - 1
	thing := s.things[last]
	s.things = s.things[:last]
	return thing
}
