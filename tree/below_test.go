package tree

import (
	"slices"
	"testing"

	"krait/api"
)

// What All tells was gathered ahead; this holds what it is gathered from to the same.
func TestR1BelowIsLeftOffAnywhere(t *testing.T) {
	l := api.Tree{{}, {Kids: []int{0}}, {}, {Kids: []int{1, 2, 1}}, {}, {Kids: []int{3, 4}}}
	seq := below(l, 5)
	whole := slices.Collect(seq)
	if !slices.Equal(whole, []int{5, 3, 1, 0, 2, 4}) {
		t.Errorf("told is %v", whole)
	}
	for most := 1; most <= len(whole); most++ {
		var got []int
		seq(func(n int) bool {
			got = append(got, n)
			return len(got) < most
		})
		if !slices.Equal(got, whole[:most]) {
			t.Errorf("left off behind %d: %v", most, got)
		}
	}
}
