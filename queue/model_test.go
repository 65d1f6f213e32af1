package queue_test

import (
	"math/rand/v2"
	"slices"
	"testing"

	"clockwork/queue"
)

// model is what the chapter says of a queue.
type model struct{ l []int }

func (m *model) place(x int) int { return slices.Index(m.l, x) }

func (m *model) push(x int) bool {
	if m.place(x) >= 0 {
		return false
	}
	m.l = append(m.l, x)
	return true
}

func (m *model) pop() (int, bool) {
	if len(m.l) == 0 {
		return 0, false
	}
	x := m.l[0]
	m.l = slices.Delete(m.l, 0, 1)
	return x, true
}

func (m *model) remove(x int) bool {
	i := m.place(x)
	if i >= 0 {
		m.l = slices.Delete(m.l, i, i+1)
	}
	return i >= 0
}

// drain pops up to n elements, and pushes one in front of the last one.
func (m *model) drain(n, x int) []int {
	var got []int
	for len(got) < n && len(m.l) > 0 {
		y, _ := m.pop()
		got = append(got, y)
		if len(got) == n-1 {
			m.push(x)
		}
	}
	return got
}

// drain is the same for a queue.
func drain(q *queue.Queue[int], n, x int) []int {
	var got []int
	if n == 0 {
		return got
	}
	for y := range q.Drain {
		got = append(got, y)
		if len(got) == n-1 {
			q.Push(x)
		}
		if len(got) == n {
			break
		}
	}
	return got
}

// step makes one random call of a queue and of its model.
func step(t *testing.T, r *rand.Rand, q *queue.Queue[int], m *model, size int) {
	x := r.IntN(size)
	switch r.IntN(8) {
	case 0, 1, 2:
		pushed(t, q, x, m.push(x))
	case 3:
		want, wantOK := m.pop()
		if got, ok := q.Pop(); got != want || ok != wantOK {
			t.Fatalf("Pop() = %d, %v, want %d, %v", got, ok, want, wantOK)
		}
	case 4, 5:
		removed(t, q, x, m.remove(x))
	case 6:
		if got, ok := q.Peek(); ok != (len(m.l) > 0) || ok && got != m.l[0] {
			t.Fatalf("Peek() = %d, %v, want the first one of %v", got, ok, m.l)
		}
	case 7:
		n := r.IntN(4)
		want := m.drain(n, x)
		if got := drain(q, n, x); !slices.Equal(got, want) {
			t.Fatalf("Drain yields %v, want %v", got, want)
		}
	}
}

// P17.1 to P17.5: random calls of queues of different sizes return what those of a model do.
func TestRandomCalls(t *testing.T) {
	r := rand.New(rand.NewPCG(17, 50))
	for _, size := range []int{1, 2, 3, 10, 100} {
		for range 20 {
			q, m := queue.New[int](), &model{}
			for range 500 {
				step(t, r, q, m, size)
				holds(t, q, m.l...)
				x := r.IntN(size)
				if q.Place(x) != m.place(x) || q.Has(x) != (m.place(x) >= 0) {
					t.Fatalf("Place(%d) = %d, want %d", x, q.Place(x), m.place(x))
				}
			}
		}
	}
}

// P17.5: elements that come and go for long keep their order, and their number stays what it is.
func TestLongUse(t *testing.T) {
	q := queue.New(0, 1, 2)
	for i := range 100000 {
		if x, ok := q.Pop(); x != i || !ok {
			t.Fatalf("Pop() = %d, %v, want %d", x, ok, i)
		}
		q.Push(i + 3)
		if q.Len() != 3 || q.Place(i+1) != 0 || q.Place(i+3) != 2 {
			t.Fatalf("after %d, the queue is %v", i, q.List())
		}
	}
	holds(t, q, 100000, 100001, 100002)
}
