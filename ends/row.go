package ends

import (
	"slices"

	"reaper/api"
)

// alone is the place that stands for no push: that of an item that was there, and of who meets none.
const alone = -1

// end is one end of a row: the slot that is free next to its outermost item, and the way out of the row. The right end is the left one, turned.
type end struct {
	free int
	out  int
}

// row is a deque of which only is known who put its items: of each, from left to right, the place of its push, or alone.
type row struct {
	most  int
	slots []int
	ends  [2]end // the left one, the right one
	with  []int  // of each operation, which push it meets
}

// rowOf is a row of items that were there, with slots at both ends for as many as there are operations: no end can come further out.
func rowOf(have, most, many int) *row {
	return &row{
		most:  most,
		slots: slices.Repeat([]int{alone}, many+have+many),
		ends:  [2]end{{free: many - 1, out: -1}, {free: many + have, out: 1}},
		with:  slices.Repeat([]int{alone}, many),
	}
}

// through has operations come, one behind the other, each to the end that its kind says, and is the codes that they are told.
func through(ops []api.Op, put, take func(side, place int) uint8) []uint8 {
	codes := make([]uint8, len(ops))
	for place, o := range ops {
		switch o.Kind {
		case api.PushL, api.PushR:
			codes[place] = put(int(o.Kind-api.PushL), place)
		case api.PopL, api.PopR:
			codes[place] = take(int(o.Kind-api.PopL), place)
		default:
			codes[place] = api.Bad
		}
	}
	return codes
}

// put has a push wait at an end. It takes room while it does, as its item would.
func (r *row) put(side, place int) uint8 {
	if r.items() >= r.most {
		return api.Full
	}
	e := &r.ends[side]
	r.slots[e.free] = place
	e.free += e.out
	return api.Done
}

// take has a pop meet who put the outermost item, at whichever end that was.
func (r *row) take(side, place int) uint8 {
	if r.items() == 0 {
		return api.Empty
	}
	e := &r.ends[side]
	e.free -= e.out
	r.with[place] = r.slots[e.free]
	return api.Got
}

// items is how many there are: all slots between the two that are free.
func (r *row) items() int {
	return r.ends[1].free - r.ends[0].free - 1
}
