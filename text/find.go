package text

import "iter"

// Find is the first place from which on s has all bytes of sub, or -1.
func Find(s, sub string) int64 {
	if sub == "" {
		return 0
	}
	for place := range places(s, sub) {
		return place
	}
	return -1
}

// places tells those from which on s has all bytes of sub (not empty), from the front on, each behind the one ahead of it.
func places(s, sub string) iter.Seq[int64] {
	return func(yield func(int64) bool) {
		if len(sub) > len(s) {
			return
		}
		back := borders(sub)
		have := 0
		for i, b := range []byte(s) {
			have = longer(sub, back, have, b)
			if have < len(sub) {
				continue
			}
			if !yield(int64(i + 1 - have)) {
				return
			}
			have = 0
		}
	}
}

// borders are, of each beginning of sub, how many bytes the longest lesser beginning has with which it ends. By them no byte of a str is gone back to, however much sub lies upon itself.
func borders(sub string) []int {
	back := make([]int, len(sub))
	have := 0
	for i, b := range []byte(sub) {
		if i > 0 {
			have = longer(sub, back, have, b)
		}
		back[i] = have
	}
	return back
}

// longer is how many bytes the longest beginning of sub has that ends with b, where the longest one that ends ahead of b has that many (not all).
func longer(sub string, back []int, have int, b byte) int {
	for have > 0 && sub[have] != b {
		have = back[have-1]
	}
	if sub[have] == b {
		have++
	}
	return have
}
