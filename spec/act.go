package spec

import (
	"slices"

	"reaper/api"
)

// where is the place of the item that is put, or taken. Who takes has none to put, and asks with any.
type where func(s []int32, v int32) int

// act is what an operation of a kind does, and where. It may write into the items that it is handed.
type act struct {
	do func(most int, s []int32, v int32, at where) ([]int32, api.Res)
	at where
}

// acts are what each object does, by its kinds. An object that is none has a map without any.
func acts() map[uint8]map[uint8]act {
	return map[uint8]map[uint8]act{
		api.Stack: {
			api.Push: {put, behind},
			api.Pop:  {take, last},
		},
		api.Deque: {
			api.PushL: {put, first},
			api.PushR: {put, behind},
			api.PopL:  {take, first},
			api.PopR:  {take, last},
		},
		api.Heap: {
			api.Add: {put, aheadOfGreater},
			api.Min: {take, first},
		},
	}
}

// put puts an item in its place. That is looked for only if there is room, as more may have been handed in than any object holds.
func put(most int, s []int32, v int32, at where) ([]int32, api.Res) {
	if len(s) >= most {
		return s, api.Res{Code: api.Full}
	}
	return slices.Insert(s, at(s, v), v), api.Res{Code: api.Done}
}

// take takes the item in its place.
func take(_ int, s []int32, v int32, at where) ([]int32, api.Res) {
	if len(s) == 0 {
		return s, api.Res{Code: api.Empty}
	}
	i := at(s, v)
	got := s[i]
	return without(s, i), api.Res{Code: api.Got, Val: got}
}

// without is all but the item in a place. The first one is cut off, so that however many there are they need not all be moved for it.
func without(s []int32, i int) []int32 {
	if i == 0 {
		return s[1:]
	}
	return slices.Delete(s, i, i+1)
}

// first is the place of the first item, and ahead of all.
func first([]int32, int32) int {
	return 0
}

// last is the place of the last item.
func last(s []int32, _ int32) int {
	return len(s) - 1
}

// behind is behind all items.
func behind(s []int32, _ int32) int {
	return len(s)
}

// aheadOfGreater is ahead of the first item that is greater, or behind all. All are gone through one by one, as items that were handed in need not rise.
func aheadOfGreater(s []int32, v int32) int {
	i := slices.IndexFunc(s, func(x int32) bool { return x > v })
	if i < 0 {
		return behind(s, v)
	}
	return i
}
