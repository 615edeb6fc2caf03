package rack

import (
	"cmp"
	"math/rand"
	"testing"
)

// sound: does a tree, all of whose keys are from low to high, have what is told of it at each node, and sides whose heights differ by one at most?
func sound(n *node[int, int], low, high int) bool {
	if n == nil {
		return true
	}
	l, r := n.left.levels(), n.right.levels()
	return n.key >= low && n.key <= high &&
		l-r <= 1 && r-l <= 1 && n.height == 1+max(l, r) &&
		n.many == n.left.entries()+1+n.right.entries() &&
		sound(n.left, low, n.key-1) && sound(n.right, n.key+1, high)
}

// TestP5_1TreesStayEven: that the sides' heights differ by one at most is why the height keeps to its bound, with however many entries.
func TestP5_1TreesStayEven(t *testing.T) {
	for seed := range int64(40) {
		random := rand.New(rand.NewSource(seed))
		keys := 1 + random.Intn(400)
		r := New[int, int](cmp.Compare[int])
		for step := range 2000 {
			// It grows at first, and shrinks at last.
			if key := random.Intn(keys); random.Intn(2000) > step {
				r.Put(key, step)
			} else {
				r.Drop(key)
			}
			if !sound(r.root, 0, keys-1) {
				t.Fatalf("P5.1: the tree isn't even, with %d entries", r.Len())
			}
		}
	}
}
