package text

import (
	"iter"
	"strings"

	"krait/api"
)

// Join is all strs of l, with sep between any two, or the name of the class of what is raised.
func Join(sep string, l []string) (string, string) {
	size := int64(0)
	for i, s := range l {
		if i > 0 {
			size += int64(len(sep))
		}
		size += int64(len(s))
		if size > api.MaxText {
			return "", memoryError
		}
	}
	return strings.Join(l, sep), ""
}

// Split is the strs between the places of sep in s, or the name of the class of what is raised.
func Split(s, sep string) ([]string, string) {
	if sep == "" {
		return nil, valueError
	}
	var l []string
	for piece := range pieces(s, sep) {
		if len(l) == api.MaxItems {
			return nil, memoryError
		}
		l = append(l, piece)
	}
	return l, ""
}

// pieces tells the strs between the places of sep (not empty) in s.
func pieces(s, sep string) iter.Seq[string] {
	return func(yield func(string) bool) {
		from := int64(0)
		for place := range places(s, sep) {
			if !yield(part(s, from, place)) {
				return
			}
			from = place + int64(len(sep))
		}
		yield(part(s, from, int64(len(s))))
	}
}
