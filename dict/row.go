package dict

import "krait/api"

// pair is a key and its value, or the gap that one left.
type pair struct {
	key, value api.Value
	gone       bool
}

// row is pairs in order, with gaps.
type row []pair

// each tells the pairs, but not the gaps.
func (l row) each(yield func(api.Value, api.Value) bool) {
	for _, p := range l {
		if !p.gone && !yield(p.key, p.value) {
			return
		}
	}
}
