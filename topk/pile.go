package topk

import (
	"cmp"
	"container/heap"
)

// size is a number without its sign. (The least number's goes around to 2^63, as it is to.)
func size(n int64) uint64 {
	if n < 0 {
		return -uint64(n)
	}
	return uint64(n)
}

// entry is a place, and the size of the number that stands there.
type entry struct {
	at   int
	size uint64
}

// against holds two entries against each other: it is below 0, if this one is ahead of the other one.
func (x entry) against(other entry) int {
	return cmp.Or(cmp.Compare(other.size, x.size), cmp.Compare(x.at, other.at))
}

// pile is a heap of entries, with the one that all others are ahead of on top: it is the one to go when a greater one comes.
type pile []entry

func (p pile) Len() int           { return len(p) }
func (p pile) Less(i, j int) bool { return p[i].against(p[j]) > 0 }
func (p pile) Swap(i, j int)      { p[i], p[j] = p[j], p[i] }
func (p *pile) Push(x any)        { *p = append(*p, x.(entry)) }

// Pop takes off the last one, where the heap has put the one on top.
func (p *pile) Pop() any {
	last := len(*p) - 1
	x := (*p)[last]
	*p = (*p)[:last]
	return x
}

// greatest is the pile of so many entries of numbers that are ahead of all the others.
func greatest(k int, v []int64) pile {
	p := make(pile, 0, k+1)
	for at, n := range v {
		heap.Push(&p, entry{at: at, size: size(n)})
		if p.Len() > k {
			heap.Pop(&p)
		}
	}
	return p
}

// places are those of all entries, the one that all others are ahead of first; the pile is empty then.
func (p *pile) places() []int {
	l := make([]int, 0, p.Len())
	for p.Len() > 0 {
		l = append(l, heap.Pop(p).(entry).at)
	}
	return l
}
