package queue_test

import (
	"slices"
	"testing"

	"clockwork/queue"
)

// P17.4: Drain pops all elements, and yields them in order.
func TestDrain(t *testing.T) {
	q := queue.New("c", "a", "b")
	var got []string
	for x := range q.Drain {
		got = append(got, x)
	}
	if !slices.Equal(got, []string{"c", "a", "b"}) {
		t.Errorf("Drain yields %q", got)
	}
	empty(t, q)
	for x := range q.Drain {
		t.Errorf("Drain yields %q again", x)
	}
}

// P17.4: an element is popped before it is yielded, and those behind it are still there.
func TestDrainPops(t *testing.T) {
	q := queue.New(1, 2, 3)
	n := 3
	for x := range q.Drain {
		n--
		if q.Has(x) || q.Len() != n {
			t.Errorf("while %d is yielded, the queue is %v", x, q.List())
		}
	}
}

// P17.4: the loop may be left; what has not been yielded stays.
func TestDrainLeft(t *testing.T) {
	for left := range 4 {
		q := queue.New(0, 1, 2, 3)
		for x := range q.Drain {
			if x == left {
				break
			}
		}
		holds(t, q, []int{0, 1, 2, 3}[left+1:]...)
	}
}

// P17.4: what is pushed in the loop is yielded, too, also what was yielded before.
func TestDrainPushed(t *testing.T) {
	q := queue.New(3)
	var got []int
	for x := range q.Drain {
		got = append(got, x)
		if len(got) < 6 {
			q.Push(x)
			q.Push(x + 1)
			q.Push(x + 1)
		}
	}
	if want := []int{3, 3, 4, 3, 4, 5, 3, 4}; !slices.Equal(got, want) {
		t.Errorf("Drain yields %v, want %v", got, want)
	}
	empty(t, q)
}

// P17.4: what is removed or popped in the loop is not yielded.
func TestDrainRemoved(t *testing.T) {
	q := queue.New(1, 2, 3, 4, 5, 6)
	var got []int
	for x := range q.Drain {
		got = append(got, x)
		switch x {
		case 1:
			q.Remove(3)
		case 2:
			q.Pop()
			q.Remove(6)
		}
	}
	if !slices.Equal(got, []int{1, 2, 5}) {
		t.Errorf("Drain yields %v", got)
	}
	empty(t, q)
}

// P17.4: a loop over a queue in a loop over it takes its elements.
func TestDrainInDrain(t *testing.T) {
	q := queue.New(1, 2, 3, 4, 5)
	var outer, inner []int
	for x := range q.Drain {
		outer = append(outer, x)
		for y := range q.Drain {
			inner = append(inner, y)
			if y%2 == 1 {
				break
			}
		}
	}
	if !slices.Equal(outer, []int{1, 4}) || !slices.Equal(inner, []int{2, 3, 5}) {
		t.Errorf("Drain yields %v and %v", outer, inner)
	}
	empty(t, q)
}

// P1: without a function to yield to, Drain does nothing.
func TestDrainNil(t *testing.T) {
	q := queue.New(1, 2)
	q.Drain(nil)
	holds(t, q, 1, 2)
	var none *queue.Queue[int]
	none.Drain(nil)
}
