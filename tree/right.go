package tree

import "krait/api"

// Right tells whether a tree may be.
func Right(t api.Tree) bool {
	if !tied(t) || t[len(t)-1].Op != api.SModule {
		return false
	}
	known := kinds()
	for _, n := range t {
		if is, ok := known[n.Op]; !ok || !is(t, n) {
			return false
		}
	}
	return shallow(t)
}

// tied tells whether there are nodes, all Kids are kids, and each node but the last one stands once among them.
func tied(t api.Tree) bool {
	stands := make([]bool, len(t))
	for i, n := range t {
		for _, kid := range n.Kids {
			if kid < 0 || kid >= i || stands[kid] {
				return false
			}
			stands[kid] = true
		}
	}
	// No node stands behind the last one, so that it alone is left.
	for i := range len(t) - 1 {
		if !stands[i] {
			return false
		}
	}
	return len(t) > 0
}

// shallow tells whether neither expressions nor blocks are nested too deep, where all Kids are kids.
func shallow(t api.Tree) bool {
	depths, blocks := make([]int, len(t)), make([]int, len(t))
	for i, n := range t {
		for _, kid := range n.Kids {
			depths[i] = max(depths[i], depths[kid])
			blocks[i] = max(blocks[i], blocks[kid])
		}
		depths[i]++
		if n.Op == api.SBlock {
			blocks[i]++
		}
		if blocks[i] > api.MaxNest || depths[i] > api.MaxNest && expr(t, n) {
			return false
		}
	}
	return true
}
