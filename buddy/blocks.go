package buddy

import (
	"container/heap"
)

// blocks are free blocks of one order, by their first frames. The map finds any of them, the heap the lowest one, so that neither takes longer where many are free.
type blocks struct {
	places map[int]int // by the first frame: where it stands in the heap
	heap   []int
}

// has: is there a block that begins there?
func (s *blocks) has(at int) bool {
	_, ok := s.places[at]
	return ok
}

// add: a block is there that wasn't.
func (s *blocks) add(at int) {
	heap.Push(s, at)
}

// drop: a block that was there is there no more.
func (s *blocks) drop(at int) {
	heap.Remove(s, s.places[at])
}

// takeLowest: the lowest block, which is there no more.
func (s *blocks) takeLowest() int {
	at := s.heap[0]
	s.drop(at)
	return at
}

// Len, Less, Swap, Push and Pop are what package heap asks for; they keep the places beside it.
func (s *blocks) Len() int {
	return len(s.heap)
}

func (s *blocks) Less(i, j int) bool {
	return s.heap[i] < s.heap[j]
}

func (s *blocks) Swap(i, j int) {
	s.heap[i], s.heap[j] = s.heap[j], s.heap[i]
	s.places[s.heap[i]], s.places[s.heap[j]] = i, j
}

func (s *blocks) Push(x any) {
	at := x.(int)
	s.places[at] = len(s.heap)
	s.heap = append(s.heap, at)
}

func (s *blocks) Pop() any {
	last := len(s.heap) - 1
	at := s.heap[last]
	s.heap = s.heap[:last]
	delete(s.places, at)
	return at
}
