package text

import "strings"

// At is the byte at a place, counted from the end if it is below 0, as a str, or the name of the class of what is raised.
func At(s string, i int64) (string, string) {
	n := int64(len(s))
	if i < 0 {
		i += n
	}
	if i < 0 || i >= n {
		return "", indexError
	}
	return part(s, i, i+1), ""
}

// Slice is the bytes of s from one place on, up to another one, by Bounds.
func Slice(s string, from, to int64) string {
	low, high := Bounds(int64(len(s)), from, to)
	return part(s, low, high)
}

// Bounds are where a slice of n bytes, or items, begins, and where it ends.
func Bounds(n, from, to int64) (low, high int64) {
	n = max(n, 0)
	low = bound(n, from)
	return low, max(low, bound(n, to))
}

// bound is a place among n, counted from the end if it is below 0, and the nearer end where it lies beyond one.
func bound(n, place int64) int64 {
	if place < 0 {
		place += n
	}
	return min(max(place, 0), n)
}

// part is the bytes of s from low on, up to high. As they stand in s, they would keep all of it in memory.
func part(s string, low, high int64) string {
	return strings.Clone(s[low:high])
}
