package queue_test

import (
	"math"
	"slices"
	"testing"

	"clockwork/queue"
)

// holds checks that a queue holds exactly the elements of want, in their order.
func holds[T comparable](t *testing.T, q *queue.Queue[T], want ...T) {
	t.Helper()
	if got := q.List(); !slices.Equal(got, want) || q.Len() != len(want) {
		t.Fatalf("List() = %v and Len() = %d, want %v", got, q.Len(), want)
	}
	for i, x := range want {
		if !q.Has(x) || q.Place(x) != i {
			t.Fatalf("Has(%v), Place(%v) = %v, %d, want true, %d", x, x, q.Has(x), q.Place(x), i)
		}
	}
}

// lacks checks that an element is not in a queue.
func lacks[T comparable](t *testing.T, q *queue.Queue[T], x T) {
	t.Helper()
	if q.Has(x) || q.Place(x) != -1 {
		t.Fatalf("Has(%v), Place(%v) = %v, %d, want false, -1", x, x, q.Has(x), q.Place(x))
	}
}

// first checks what Peek and Pop return, and that only Pop removes it.
func first[T comparable](t *testing.T, q *queue.Queue[T], want T) {
	t.Helper()
	n := q.Len()
	if x, ok := q.Peek(); x != want || !ok || q.Len() != n {
		t.Fatalf("Peek() = %v, %v, want %v, true", x, ok, want)
	}
	if x, ok := q.Pop(); x != want || !ok || q.Len() != n-1 {
		t.Fatalf("Pop() = %v, %v, want %v, true", x, ok, want)
	}
	lacks(t, q, want)
}

// empty checks that a queue without elements has no first one.
func empty[T comparable](t *testing.T, q *queue.Queue[T]) {
	t.Helper()
	var zero T
	holds(t, q)
	if x, ok := q.Peek(); x != zero || ok {
		t.Fatalf("Peek() = %v, %v, want no element", x, ok)
	}
	if x, ok := q.Pop(); x != zero || ok {
		t.Fatalf("Pop() = %v, %v, want no element", x, ok)
	}
	holds(t, q)
}

// pushed checks what Push returns.
func pushed[T comparable](t *testing.T, q *queue.Queue[T], x T, want bool) {
	t.Helper()
	if got := q.Push(x); got != want {
		t.Fatalf("Push(%v) = %v, want %v", x, got, want)
	}
}

// removed checks what Remove returns, and that the element is not there any more.
func removed[T comparable](t *testing.T, q *queue.Queue[T], x T, want bool) {
	t.Helper()
	if got := q.Remove(x); got != want {
		t.Fatalf("Remove(%v) = %v, want %v", x, got, want)
	}
	lacks(t, q, x)
}

// The example of the chapter.
func TestExample(t *testing.T) {
	q := queue.New(5, 6, 5)
	first(t, q, 5)
	first(t, q, 6)
	empty(t, q)
}

// P17.1: New pushes the given elements in order, each of them once.
func TestNew(t *testing.T) {
	empty(t, queue.New[int]())
	empty(t, queue.New([]string{}...))
	holds(t, queue.New(0), 0)
	holds(t, queue.New(3, 1, 2), 3, 1, 2)
	holds(t, queue.New("b", "a", "b", "b", "c", "a"), "b", "a", "c")
	holds(t, queue.New("", "a", ""), "", "a")
}

// P17.1: Push adds an element at the end, unless it is there.
func TestPush(t *testing.T) {
	q := queue.New[string]()
	pushed(t, q, "b", true)
	pushed(t, q, "b", false)
	holds(t, q, "b")
	pushed(t, q, "a", true)
	pushed(t, q, "", true)
	holds(t, q, "b", "a", "")
	for _, x := range q.List() {
		pushed(t, q, x, false)
	}
	holds(t, q, "b", "a", "")
}

// P17.1: an element that was popped or removed may be pushed again, to the end.
func TestPushAgain(t *testing.T) {
	q := queue.New(1, 2, 3, 4)
	first(t, q, 1)
	pushed(t, q, 1, true)
	holds(t, q, 2, 3, 4, 1)
	removed(t, q, 3, true)
	pushed(t, q, 3, true)
	holds(t, q, 2, 4, 1, 3)
	pushed(t, q, 3, false)
	removed(t, q, 3, true)
	pushed(t, q, 3, true)
	holds(t, q, 2, 4, 1, 3)
}

// P17.2: Pop and Peek return the first element; a zero value that is there is told from none.
func TestPop(t *testing.T) {
	q := queue.New(7, 0, -1)
	first(t, q, 7)
	first(t, q, 0)
	first(t, q, -1)
	empty(t, q)
	empty(t, q)
	pushed(t, q, 0, true)
	first(t, q, 0)
	empty(t, q)
}

// P17.2: Remove removes an element from the beginning, from the middle and from the end.
func TestRemove(t *testing.T) {
	q := queue.New(1, 2, 3, 4, 5)
	removed(t, q, 3, true)
	removed(t, q, 3, false)
	holds(t, q, 1, 2, 4, 5)
	removed(t, q, 1, true)
	removed(t, q, 1, false)
	holds(t, q, 2, 4, 5)
	removed(t, q, 5, true)
	holds(t, q, 2, 4)
	removed(t, q, 9, false)
	holds(t, q, 2, 4)
	first(t, q, 2)
	removed(t, q, 2, false)
	removed(t, q, 4, true)
	empty(t, q)
	removed(t, q, 4, false)
}

// P17.3: Place counts those in front, also after some of them have left.
func TestPlace(t *testing.T) {
	q := queue.New[int]()
	for i := range 100 {
		pushed(t, q, i, true)
	}
	for i := 0; i < 100; i += 3 {
		removed(t, q, i, true)
	}
	for range 10 {
		q.Pop()
	}
	// 66 are left of 100, and ten of them were popped: up to 14.
	for i := range 100 {
		want := i - i/3 - 11
		if i < 15 || i%3 == 0 {
			want = -1
		}
		if got := q.Place(i); got != want || q.Has(i) != (want >= 0) {
			t.Errorf("Place(%d) = %d, Has(%d) = %v, want %d", i, got, i, q.Has(i), want)
		}
	}
	lacks(t, q, -1)
	lacks(t, q, 100)
	lacks(t, q, math.MinInt)
}

// P17.5: none is there twice, and all are popped in the order in which they were pushed.
func TestOrder(t *testing.T) {
	q := queue.New[int]()
	var want []int
	for i := range 1000 {
		x := i * 37 % 250
		if q.Push(x) != (i < 250) {
			t.Fatalf("Push(%d) for the element %d", x, i)
		}
		if i < 250 {
			want = append(want, x)
		}
	}
	for _, x := range want {
		first(t, q, x)
	}
	empty(t, q)
}

// The methods of a nil Queue do nothing and return zero values; Place returns -1.
func TestNil(t *testing.T) {
	var q *queue.Queue[string]
	empty(t, q)
	pushed(t, q, "", false)
	pushed(t, q, "a", false)
	removed(t, q, "", false)
	removed(t, q, "a", false)
	if l := q.List(); len(l) != 0 {
		t.Errorf("List() = %v", l)
	}
	for x := range q.Drain {
		t.Errorf("Drain yields %q", x)
	}
}

type pair struct {
	name   string
	number int
}

// Elements are compared by ==, whatever their type is.
func TestTypes(t *testing.T) {
	a, b := new(int), new(int)
	pointers := queue.New(b, a, b, nil, nil)
	holds(t, pointers, b, a, nil)
	lacks(t, pointers, new(int))

	structs := queue.New(pair{"a", 1}, pair{"a", 2}, pair{"a", 1}, pair{})
	holds(t, structs, pair{"a", 1}, pair{"a", 2}, pair{})
	lacks(t, structs, pair{"", 1})

	mixed := queue.New[any](1, "1", 1.0, nil, 1, nil, [2]int{1, 2}, [2]int{1, 2})
	holds(t, mixed, any(1), any("1"), any(1.0), nil, any([2]int{1, 2}))
	lacks(t, mixed, any(int64(1)))

	zero := math.Copysign(0, -1)
	floats := queue.New(zero, 0)
	holds(t, floats, 0)
	if x, _ := floats.Pop(); !math.Signbit(x) {
		t.Error("the element is not the one that was pushed")
	}
	lacks(t, floats, zero)
	numbers := queue.New(int64(math.MinInt64), math.MaxInt64, math.MinInt64)
	holds(t, numbers, math.MinInt64, math.MaxInt64)
}

// P2: queues that were created separately are independent.
func TestIndependence(t *testing.T) {
	given := []int{1, 2, 3}
	p, q := queue.New(given...), queue.New(given...)
	p.Pop()
	p.Push(4)
	holds(t, p, 2, 3, 4)
	holds(t, q, 1, 2, 3)
}

// Rule 4: neither the arguments of New nor the results of List share memory with a queue or with each other.
func TestMemory(t *testing.T) {
	given := []int{1, 2, 3}
	q := queue.New(given...)
	given[0], given[2] = 9, 9
	holds(t, q, 1, 2, 3)

	one, two := q.List(), q.List()
	one[0], one[1] = 8, 8
	one = append(one, 8)
	if !slices.Equal(two, []int{1, 2, 3}) {
		t.Errorf("the second list is %v", two)
	}
	holds(t, q, 1, 2, 3)
	q.Remove(1)
	q.Push(5)
	if !slices.Equal(two, []int{1, 2, 3}) || !slices.Equal(one, []int{8, 8, 3, 8}) {
		t.Errorf("the lists are %v, %v", one, two)
	}
	holds(t, q, 2, 3, 5)
	if !slices.Equal(given, []int{9, 2, 9}) {
		t.Errorf("the argument is %v", given)
	}
}
