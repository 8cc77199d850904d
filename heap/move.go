package heap

import (
	"overdrive/api"
	"overdrive/arena"
)

// Refs goes through the references of an object that are not none.
func (h *Heap) Refs(r int) func(yield func(to int) bool) {
	return func(yield func(to int) bool) {
		_, n, _ := h.Is(r)
		for i := range n {
			at, ref, _ := h.place(r, i)
			if !ref {
				continue
			}
			if v, _ := h.words.Load(at); v != 0 && !yield(int(v)) {
				return
			}
		}
	}
}

// Reach is the objects that can be reached from these references, in the order in which they are met, as far as they may be taken.
func (h *Heap) Reach(roots []int, take func(r int) bool) []int {
	var out []int
	met := map[int]struct{}{}
	meet := func(r int) bool {
		_, again := met[r]
		if _, _, is := h.Is(r); is && !again && take(r) {
			met[r] = struct{}{}
			out = append(out, r)
		}
		return true
	}
	for _, r := range roots {
		meet(r)
	}
	for k := 0; k < len(out); k++ {
		h.Refs(out[k])(meet)
	}
	return out
}

// Shape tells the objects that can be reached from these references, as they are met.
func (h *Heap) Shape(roots []int) ([]api.Object, []int) {
	met := h.Reach(roots, func(int) bool { return true })
	number := map[int]int{}
	for k, r := range met {
		number[r] = k
	}
	told := func(r int) int {
		if k, is := number[r]; is {
			return k
		}
		return -1
	}
	var out []api.Object
	for _, r := range met {
		class, n, _ := h.Is(r)
		o := api.Object{Class: class, Vals: make([]int64, n)}
		for i := range n {
			o.Vals[i], _ = h.Get(r, i)
			if h.Ref(r, i) {
				o.Vals[i] = int64(told(int(o.Vals[i])))
			}
		}
		out = append(out, o)
	}
	var at []int
	for _, r := range roots {
		at = append(at, told(r))
	}
	return out, at
}

// All is all objects that were made since the last collection, or lived through it: the nursery's, then the old half's, rising.
func (h *Heap) All() []int {
	var out []int
	for _, s := range []*arena.Space{&h.young, h.old()} {
		for at := s.From; at < s.Top; at++ {
			if h.begins[at] {
				out = append(out, at+1)
			}
		}
	}
	return out
}

// Total is how many words these objects take.
func (h *Heap) Total(l []int) int {
	words := 0
	for _, r := range l {
		_, n, _ := h.Is(r)
		words += api.HeadWords + n
	}
	return words
}

// Rehouse moves these objects, one behind the other, into the old half, or (whole) into the other half, which is the old one then; the nursery, and (whole) the half that was the old one, are empty. The objects are all that is to stay, and have room. It answers where they lie now.
func (h *Heap) Rehouse(l []int, whole bool) []int {
	from := h.old()
	if whole {
		h.half = 1 - h.half
		h.old().Reset()
	}
	now := make([]int, len(l))
	for k, r := range l {
		now[k] = h.move(r)
	}
	left := h.marks
	h.marks = nil
	if whole {
		left = nil
	}
	for _, r := range append(left, now...) {
		h.words.Store(r, unmarked)
		h.follow(r, whole)
	}
	h.vacate(&h.young)
	if whole {
		h.vacate(from)
	}
	return now
}

// move copies an object into the old half, and leaves in its second word where it lies now.
func (h *Heap) move(r int) int {
	_, n, _ := h.Is(r)
	at, _ := h.old().Take(api.HeadWords + n)
	h.words.Copy(at, r-1, api.HeadWords+n)
	h.words.Store(r, int64(at+1))
	h.begins[at] = true
	return at + 1
}

// follow lays the references of an object anew, those that name what has moved.
func (h *Heap) follow(r int, whole bool) {
	_, n, _ := h.Is(r)
	for i := range n {
		at, ref, _ := h.place(r, i)
		v, _ := h.words.Load(at)
		if ref && v != 0 && (whole || h.young.Has(int(v)-1)) {
			to, _ := h.words.Load(int(v))
			h.words.Store(at, to)
		}
	}
}

func (h *Heap) vacate(s *arena.Space) {
	clear(h.begins[s.From:s.Top])
	s.Reset()
}
