package layout

// stack is what goes on, the one that began last on top.
type stack[T any] []T

func (s stack[T]) empty() bool { return len(s) == 0 }

// top is the zero value of an empty stack: no closer, and the indentation of the source itself.
func (s stack[T]) top() T {
	var none T
	if s.empty() {
		return none
	}
	return s[len(s)-1]
}

func (s *stack[T]) push(x T) { *s = append(*s, x) }

// pop takes the top off a stack that is not empty.
func (s *stack[T]) pop() { *s = (*s)[:len(*s)-1] }
