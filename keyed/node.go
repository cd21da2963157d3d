package keyed

// The sides of a node.
const (
	ahead  = 0
	behind = 1
)

// With these two numbers a tree stays even, if it is made so on the way alone to a key that came or went; with most others it doesn't.
const (
	heavy = 3
	inner = 2
)

// node is a tree of keys. It never changes once it is made: so who goes through a tree sees nothing of what is done to the table meanwhile.
type node[K, V any] struct {
	key   K
	value V
	size  int
	sides [2]*node[K, V]
}

func (n *node[K, V]) len() int {
	if n == nil {
		return 0
	}
	return n.size
}

// weight is above 0 for no keys too, so that sides may be held against one another by how many times one is the other.
func (n *node[K, V]) weight() int { return n.len() + 1 }

// with gives n with another tree on a side.
func (n *node[K, V]) with(side int, other *node[K, V]) *node[K, V] {
	out := *n
	out.sides[side] = other
	out.size = out.sides[ahead].len() + 1 + out.sides[behind].len()
	return &out
}

// lift gives the same keys with the node of a side as the uppermost one.
func (n *node[K, V]) lift(side int) *node[K, V] {
	up := n.sides[side]
	return up.with(1-side, n.with(side, up.sides[1-side]))
}

// even gives the same keys with neither side too heavy, if by one key at most one of them was.
func (n *node[K, V]) even() *node[K, V] {
	for side, s := range n.sides {
		if s.weight() <= heavy*n.sides[1-side].weight() {
			continue
		}
		// What is lifted leaves its inner side below: that would be too heavy there.
		if s.sides[1-side].weight() >= inner*s.sides[side].weight() {
			n = n.with(side, s.lift(1-side))
		}
		return n.lift(side)
	}
	return n
}

// rest gives the keys but n's own one.
func (n *node[K, V]) rest() *node[K, V] {
	if n.sides[behind] == nil {
		return n.sides[ahead]
	}
	next := n.sides[behind].at(0)
	return next.with(ahead, n.sides[ahead]).with(behind, n.sides[behind].tail()).even()
}

// tail gives the keys but the first one.
func (n *node[K, V]) tail() *node[K, V] {
	if n.sides[ahead] == nil {
		return n.sides[behind]
	}
	return n.with(ahead, n.sides[ahead].tail()).even()
}

// at gives the node of the i-th key.
func (n *node[K, V]) at(i int) *node[K, V] {
	for n != nil {
		place := n.sides[ahead].len()
		switch {
		case i < place:
			n = n.sides[ahead]
		case i > place:
			i -= place + 1
			n = n.sides[behind]
		default:
			return n
		}
	}
	return nil
}

// walk tells the keys with their values, rising, till it is told to end; then it is false.
func (n *node[K, V]) walk(yield func(K, V) bool) bool {
	return n == nil ||
		n.sides[ahead].walk(yield) && yield(n.key, n.value) && n.sides[behind].walk(yield)
}
