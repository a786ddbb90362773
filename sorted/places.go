package sorted

import (
	"cmp"
	"slices"

	"reaper/api"
)

// parts are the places of those that add, by their values, and of all others, in order.
func parts(ops []api.Op) (adds, others []int) {
	for place, o := range ops {
		if o.Kind == api.Add {
			adds = append(adds, place)
		} else {
			others = append(others, place)
		}
	}
	sortBy(adds, func(place int) int32 { return ops[place].Val })
	return adds, others
}

// sortBy sorts a list by what each of it is told to be; those that are told the same stay in order.
func sortBy[T any, K cmp.Ordered](l []T, by func(T) K) {
	slices.SortStableFunc(l, func(a, b T) int {
		return cmp.Compare(by(a), by(b))
	})
}

// values are what operations in those places bring.
func values(ops []api.Op, places []int) []int32 {
	l := make([]int32, len(places))
	for i, place := range places {
		l[i] = ops[place].Val
	}
	return l
}
